import Derived.Test.YthicgffppmbamaaGreatP14
import Derived.Test.YthicgffppmbamaaGreatP16
import Derived.Test.YthicgffppmbamaaGreatP20
set_option maxRecDepth 100000
set_option maxHeartbeats 16000000
namespace Go.Proofs.YthicgffppmbamaaGreat
open Go.RowKit
section
open Pl
theorem Core.asked {m:Sc}{x:Part}{N:Nat}(h:Core m (x::partsOf m) N):Core (Pl.ask m x) (partsOf (Pl.ask m x)) (N+1):=by
 have hp:(x::partsOf m).Perm (partsOf (Pl.ask m x)):=(List.perm_append_comm (l₁:=[x])).trans (Ef m x);have h4:=h.perm hp;exact⟨h4.state,h4.size,h4.want,h4.gap,h4.win,h4.pI,h4.tries,h4.dh,h4.parts,h4.ahead,h4.qF,h4.opened,h4.uF,h4.first,h4.rows,Nat.succ_le_succ h4.bW⟩
theorem Core.alone {m:Sc}{x:Part}{L:List Part}{N:Nat}(h:Core m (x::L) N)(hx:qg x.gW=false):L=[]∧m.ahead=[]∧m.opened=0:=by
 obtain⟨h1,h2⟩:=h.first ⟨x,aj,hx⟩;have h3:L=[]:=aT (by simpa using h1);refine⟨h3,h2,?_⟩;rw[h.opened,h3,List.filter_cons,if_neg (by simp[hx])];rfl
theorem Qc (gap foot nn:Nat)(bD:List Nat)(gs:List eu)(hg:∀g∈gs,vR nn foot g)(hc:∀c∈bD,c<nn)(h6:gs.length≤6)(h4:bD.length≤4)(hf:foot≤4000):∀p∈fH gap bD gs,M6 p:=fun p hp=>by
 obtain⟨h1,h2⟩:=DL gap foot bD nn gs hg hc gs.length (aK _) p hp;have h3:=(sF gap bD gs gs.length).2 p hp;refine⟨h1.len,by have:=h1.ends;omega,fun y hy=>?_,af⟩;have hw:=h2 y hy;have hin:=h1.within y hy;have hge:=hw.group;have hr:=hw.rows;rw[ay hge]at hr;have hr':(gs[y.group]).rows=y.rows:=by simpa using hr
 have hgo:=hg _ (aJ hge);have e1:=hw.ends;have e2:=hw.column;refine⟨hin.1,hw.length,hin.2,af,by rw[←hr'];exact hgo.KH,by rw[←hr'];exact hgo.BM,hw.sum,af,af⟩
theorem Core.whole {m:Sc}{x:Part}{N:Nat}{data:List UInt8}(h:Core m (x::partsOf m) N)(ht:∀q∈m.waiting,1≤q.1∧q.1≤16)(hd:data.length=x.length):rD m x.gW data∧Good (mO m x.gW data) (N+24):=by
 have hx:=h.parts x aj;have hsz:=h.size;cases ha:x.gW with
 |tail=>
  refine⟨trivial,?_⟩;obtain⟨hL,hah,hop⟩:=h.alone (by rw[ha];rfl);show Good (lI m data) (N+24);unfold lI;cases hr:jk data m.size with
  |none=>exact .inl ⟨2,by decide,by decide,rfl⟩
  |some n=>
   simp only;unfold jk at hr;split at hr
   ·rename_i hc;simp only[Option.some.injEq]at hr;obtain⟨-,-,c1,c2⟩:=hc;rw[hr]at c1 c2;have h1:Core m (⟨m.size-6-n,n,[],0,.footer⟩::partsOf m) N:=by
     have h0:=h;rw[hL]at h0⊢;refine{h0 with parts:=fun y hy=>?_,opened:=?_,first:=fun _=>⟨rfl,hah⟩,rows:=?_}
     ·simp at hy;subst hy;exact⟨by simp only;omega,c1,h.pI,fun _=>by simp only;omega,fun p e=>by cases e⟩
     ·rw[hop];rfl
     ·have:=h0.rows;unfold pend at this⊢;simp[mZ,ha]at this⊢;exact this
    exact(Good.mono (.inr ⟨h1.asked,ht⟩) af)
   ·cases hr
 |footer=>
  have hfl:=hx.footer ha;refine⟨by show data.length+10≤m.size;omega,?_⟩;obtain⟨hL,hah,hop⟩:=h.alone (by rw[ha];rfl);show Good (jT m data) (N+24);unfold jT;cases hr:gU data (m.size-6-data.length)with
  |none=>exact .inl ⟨2,by decide,by decide,rfl⟩
  |some f=>
   simp only;have hfo:=qL data _ af f hr;cases hc:columns f.names m.want with
   |none=>exact .inl ⟨3,by decide,by decide,rfl⟩
   |some bD=>
    simp only;obtain⟨c1,c2,c3,c4⟩:=vL _ _ _ hc;have hwant:=h.want;split
    ·exact .inl ⟨1,by decide,by decide,rfl⟩
    ·refine .inr (Going.fV ⟨?_,ht⟩);have hpc:=Qc m.gap (m.size-6-data.length) f.names.length bD f.groups hfo.groups c3 hfo.count af af;have hpn:partsOf {m with rows:=jL bD.length (f.groups.map (·.rows)),ahead:=fH m.gap bD f.groups}=[]:=hL;rw[hpn];have hlen:=(sF m.gap bD f.groups f.groups.length).1;have h24:f.groups.length*bD.length≤6*4:=Nat.mul_le_mul hfo.count af;refine⟨h.state,h.size,h.want,h.gap,h.win,h.pI,h.tries,h.dh,(fun y hy=>by cases hy),hpc,by show(fU _ _ _ _).length≤24;omega,hop,h.uF,(fun⟨y,hy,_⟩=>by cases hy),?_,h.bW⟩;refine(X4 f.names.length _ bD f.groups hfo.groups hfo.count af).perm ?_;exact(vg m.gap bD f.groups f.groups.length).symm
 |piece p=>
  obtain⟨hpl,hpc⟩:=hx.piece p ha;have hrw:=h.rows;unfold pend at hrw;rw[List.flatMap_cons,ha,aW]at hrw;obtain⟨hp1,hp2⟩:=iF.puts (p:=p) (data:=data) p.pages m.rows _ hrw;have hop:=h.opened;rw[List.filter_cons,if_pos (by rw[ha];rfl),aR]at hop;have ME:=h.rows.few;refine⟨⟨fun y hy=>by rw[hd,hpl];exact hpc.pages y hy,by have:=hpc.few;omega,hp1,af,af⟩,?_⟩;show Good (kX m p data) (N+24);unfold kX;cases hr:mM p data p.pages m.rows with
  |none=>exact .inl ⟨2,by decide,by decide,rfl⟩
  |some r'=>
   simp only;refine .inr (Going.fV ⟨?_,ht⟩);have how:=h.uF;refine⟨h.state,h.size,h.want,h.gap,h.win,h.pI,h.tries,h.dh,fun y hy=>h.parts y (List.mem_cons_of_mem _ hy),h.ahead,h.qF,by show m.opened-1=_;rw[hop];rfl,by show m.opened-1≤m.win;omega,fun⟨y,hy,e⟩=>?_,(hp2 r' hr).1,h.bW⟩;have hy':y∈partsOf m:=hy;have:=(h.first ⟨y,List.mem_cons_of_mem _ hy',e⟩).1;simp at this;rw[this]at hy';cases hy'
theorem Going.bnd {m:Sc}{N:Nat}(h:Going m N)(hN:N≤10000000000):Ml m:=by
 have hw:=h.waits;have c:=h.core;have h1:=c.size;have h2:=c.bW;have h3:=c.want;have h4:=c.gap;have h5:=c.win;have h6:=c.uF;have h7:=c.qF;exact⟨h1,af,af,h3,af,af,af,af,fun p hp=>by have:=(c.ahead p hp).ends;omega⟩
theorem Good.answer {m:Sc}{N:Nat}(h:Good m N)(hN:N≤10000000000)(id:Int)(l:List UInt8):
 (∀i,gM m.asked id=some i→wH m (Pl.partAt m i)∧(l.length≤(Pl.partAt m i).length-(Pl.partAt m i).data.length→l.length≠0→KJ m (Pl.partAt m i) l)∧(Pl.partAt m i).length≤1000000)∧Good (Pl.answer m id l).1 (N+24)∧m.asked.length≤1000:=by
 have hf:=h.fail id;rcases h with⟨why,h1,h2,rfl⟩|h
 ·refine⟨fun i hi=>by have:=pJ hi;exact absurd this (by show¬i<0;omega),.inl ⟨why,h1,h2,?_⟩,by show 0≤1000;omega⟩;rfl
 ·have key:∀i,gM m.asked id=some i→l.length≤(Pl.partAt m i).length-(Pl.partAt m i).data.length→l.length≠0→KJ m (Pl.partAt m i) l∧Good (Pl.nR (dF m i) (Pl.partAt m i) l) (N+24):=fun i hi hle hne=>by
   obtain⟨h1,h2⟩:=h.taken i (pJ hi);have amB:=h2.ends;have hdat:=h2.data;have Td:(Pl.partAt m i).data.length+l.length=(Pl.partAt m i).length→rD (dF m i) (Pl.partAt m i).gW ((Pl.partAt m i).data++l)∧Good (mO (dF m i) (Pl.partAt m i).gW ((Pl.partAt m i).data++l)) (N+24):=fun e=>h1.whole h.ticks (by rw[aD];exact e)
   refine⟨⟨h.bnd hN,af,af,fun e=>?_⟩,?_⟩
   ·have:=(Td e).1;generalize(Pl.partAt m i).gW=a at this⊢;cases a<;>exact this
   ·unfold Pl.nR;by_cases hl:(Pl.partAt m i).data.length+l.length<(Pl.partAt m i).length
    ·rw[if_pos hl];have h3:=h1.swap (x':={Pl.partAt m i with data:=(Pl.partAt m i).data++l}) rfl ⟨h2.ends,by show((Pl.partAt m i).data++l).length<_;rw[aD];exact hl,h2.fails,h2.footer,h2.piece⟩;exact Good.mono (.inr ⟨h3.asked,h.ticks⟩) af
    ·rw[if_neg hl];exact(Td af).2
  refine⟨fun i hi=>⟨hf.1 i hi,fun a b=>(key i hi a b).1,?_⟩,?_,hf.2.2⟩
  ·have:=(h.taken i (pJ hi)).2.ends;omega
  ·unfold Pl.answer;cases hi:gM m.asked id with
   |none=>exact Good.mono (.inr h) af
   |some i=>
    simp only;by_cases h1:(Pl.partAt m i).length-(Pl.partAt m i).data.length<l.length
    ·rw[if_pos h1];exact Good.mono (.inr h) af
    ·rw[if_neg h1];by_cases h2:l.length=0
     ·rw[if_pos h2];exact hf.2.1.mono af
     ·rw[if_neg h2];exact(key i hi af h2).2
theorem KE (want:List (List UInt8)):(dU want).length≤4:=by
 unfold dU;split
 ·rename_i h;exact((fD want).1 h).2.1
 ·simp
theorem Good.open (size:Nat)(want:List (List UInt8))(w t r g:Nat)(hs:size≤4000)(hw:w≤4)(ht1:1≤t)(ht:t≤4)(hr:r≤20)(hg:g≤32):Good (kG size want w t r g) 1:=by
 unfold kG;by_cases h:size<10
 ·rw[if_pos h];exact .inl ⟨2,by decide,by decide,rfl⟩
 ·rw[if_neg h];have h0:Core {size:=size,want:=dU want,win:=w,tries:=t,dh:=r,gap:=g} (⟨size-6,6,[],0,.tail⟩::partsOf {size:=size,want:=dU want,win:=w,tries:=t,dh:=r,gap:=g}) 0:=by
   refine⟨rfl,hs,KE want,hg,hw,ht1,ht,hr,fun y hy=>?_,(fun p hp=>by cases hp),aM 24,rfl,aM _,fun _=>⟨rfl,rfl⟩,M7,aM _⟩;have hy:y∈[(⟨size-6,6,[],0,.tail⟩:Part)]:=hy;simp at hy;subst hy;exact⟨by simp only;omega,(by show 0<6;omega),ht1,(fun e=>by cases e),fun p e=>by cases e⟩
  exact .inr ⟨h0.asked,fun q hq=>by cases hq⟩
end
def XG (col:bU)(w:World)(X P:Nat)(m:Pl.Sc)(N:Nat):Prop:=mq col w X m P∧Good m N
theorem Eg (col:bU)(w:World)(X P:Nat)(m:Pl.Sc)(N:Nat)(h:XG col w X P m N)(hN:N≤10000000000)(id:Int)(l:List UInt8)(hl:l.length≤2000000):
 Calls Tryz.prog 26 #[PtrTo X 0,.int .i64 id,tx l] w fun e w'=>e=.returned (.int .i64 (Pl.answer m id l).2)∧∃bV,XG bV w' X P (Pl.answer m id l).1 (N+24)∧cu col w w' bV:=by
 obtain⟨h1,h2,h3⟩:=h.2.answer hN id l;refine(OP col w X P m h.1 id l hl h3 h1).mono ?_;rintro e w' ⟨he,bV,hx,hw⟩;exact⟨he,bV,⟨hx,h2⟩,hw⟩
theorem JI (col:bU)(w:World)(X P:Nat)(m:Pl.Sc)(N:Nat)(h:XG col w X P m N)(id:Int):
 Calls Tryz.prog 27 #[PtrTo X 0,.int .i64 id] w fun e w'=>e=.returned (.int .i64 (Pl.fail m id).2)∧∃bV,XG bV w' X P (Pl.fail m id).1 N∧cu col w w' bV:=by
 obtain⟨h1,h2,h3⟩:=h.2.fail id;refine(Un col w X P m h.1 id h3 h1).mono ?_;rintro e w' ⟨he,bV,hx,hw⟩;exact⟨he,bV,⟨hx,h2⟩,hw⟩
theorem U5 (col:bU)(w:World)(X P:Nat)(m:Pl.Sc)(N:Nat)(h:XG col w X P m N)(hN:N≤10000000000):
 Calls Tryz.prog 28 #[PtrTo X 0] w fun e w'=>e=.returned (.tuple #[])∧∃bV,XG bV w' X P (Pl.tick m) (N+4)∧cu col w w' bV:=by
 obtain⟨h1,h2⟩:=h.2.tick af;refine(Uo col w X P m h.1 h1).mono ?_;rintro e w' ⟨he,bV,hx,hw⟩;exact⟨he,bV,⟨hx,h2⟩,hw⟩
theorem OU (col:bU)(w:World)(X P:Nat)(m:Pl.Sc)(N:Nat)(h:XG col w X P m N):
 Calls Tryz.prog 25 #[PtrTo X 0] w fun e w'=>e=.returned (.tuple #[])∧∃bV,XG bV w' X P (Pl.cancel m) N∧cu col w w' bV:=by
 obtain⟨h1,h2⟩:=h.2.cancel;refine(OQ col w X P m h.1 h2).mono ?_;rintro e w' ⟨he,bV,hx,hw⟩;exact⟨he,bV,⟨hx,h1⟩,hw⟩
section
open Pl
section
variable{names:List (List UInt8)}{gs:List (List (List Int))}{bD:List Nat}{m:Sc}{L L':List Part}
end
def valOf (gs:List (List (List Int)))(bD:List Nat)(g c:Nat):List Int:=(gs.getD g []).getD (bD.getD c 0) []
def Ah (gs:List (List (List Int)))(bD:List Nat)(r:Rw)(pd:List cK):Prop:=∀i G(c:Nat)l,r.groups[i]?=some G→G.lists[c]?=some l→valOf gs bD (r.gone+i) c=l∨∃y∈pd,y.group=r.gone+i∧y.column=c
theorem U6 {r:Rw}{g c i:Nat}{l:List Int}{G':gF}(h:(kz r g c l).groups[i]?=some G'):(i=g-r.gone∧∃G,r.groups[i]?=some G∧G'={G with lists:=G.lists.set c l,missing:=G.missing-1})∨(i≠g-r.gone∧r.groups[i]?=some G'):=by
 unfold kz at h;simp only[List.getElem?_modify]at h;by_cases e:g-r.gone=i
 ·left;subst e;cases hh:r.groups[g-r.gone]? with
  |none=>rw[hh]at h;simp at h
  |some G=>rw[hh]at h;simp at h;exact⟨rfl,G,rfl,h.symm⟩
 ·right;refine⟨fun e'=>e e'.symm,?_⟩;cases hh:r.groups[i]? with
  |none=>rw[hh]at h;simp at h
  |some G2=>rw[hh]at h;simp[e]at h;rw[h]
end
section
open Pl
structure vN (gs:List (List (List Int)))(bD:List Nat)(r:Rw):Prop where
 columns:r.columns=bD.length
 count:r.gone+r.groups.length=gs.length
 rows:∀i G,r.groups[i]?=some G→G.rows=((gs.getD (r.gone+i) []).getD 0 []).length
def rowOf (gs:List (List (List Int)))(bD:List Nat)(g i:Nat):List Int:=(List.range bD.length).map fun c=>(valOf gs bD g c).getD i 0
section
variable{gs:List (List (List Int))}{bD:List Nat}{r:Rw}{pd:List cK}
theorem X5 (h:iF r pd)(hl:Ah gs bD r pd)(ht:vN gs bD r)(hr:0<eF r):(gG r).1=rowOf gs bD r.gone r.row∧r.row<((gs.getD r.gone []).getD 0 []).length∧r.gone<gs.length:=by
 obtain⟨G,rest,hk,hm⟩:=h.first hr;have hd:r.groups.getD 0 default=G:=by rw[hk.groups];rfl
 have hG:r.groups[0]?=some G:=by rw[hk.groups];rfl
 obtain⟨-,-,-,g4,-⟩:=h.nH 0 G hG;have hpn:=sj (show(jY pd (r.gone+0)).length=0 by rw[←g4];exact hm);have hrow:=ht.rows 0 G hG;rw[Nat.add_zero]at hrow;refine⟨?_,by rw[←hrow];exact hk.row,by have:=ht.count;rw[hk.groups]at this;simp at this;omega⟩;unfold gG rowOf;simp only[hd];apply List.ext_getElem?;intro c;rw[aN,aN];by_cases hc:c<bD.length
 ·have hlt:c<G.lists.length:=by rw[hk.bD,ht.columns];exact hc
  rw[List.getElem?_range hc,ay hlt];simp only[Option.map_some,Option.some.injEq];rcases hl 0 G c _ hG (ay hlt)with e|⟨y,hy,hyg,-⟩
  ·rw[Nat.add_zero]at e;rw[e]
  ·exact absurd hyg (hpn y hy)
 ·rw[bn (by rw[hk.bD,ht.columns];omega),bn (by simp;omega)];rfl
theorem Gt (h:iF r pd)(hl:Ah gs bD r pd)(ht:vN gs bD r)(hr:0<eF r):Ah gs bD (gG r).2 pd∧vN gs bD (gG r).2∧(((gG r).2.gone=r.gone∧(gG r).2.row=r.row+1)∨((gG r).2.gone=r.gone+1∧(gG r).2.row=0∧r.row+1=((gs.getD r.gone []).getD 0 []).length)):=by
 obtain⟨G,rest,hk,hm⟩:=h.first hr;have hd:r.groups.getD 0 default=G:=by rw[hk.groups];rfl
 have hG:r.groups[0]?=some G:=by rw[hk.groups];rfl
 have hrow:=ht.rows 0 G hG;rw[Nat.add_zero]at hrow;have hd1:r.groups.drop 1=rest:=by rw[hk.groups];rfl
 have hget:∀i,(r.groups.drop 1)[i]?=r.groups[i+1]?:=fun i=>by rw[List.getElem?_drop,Nat.add_comm]
 unfold gG;simp only[hd];by_cases he:r.row+1=G.rows
 ·rw[if_pos he];refine⟨fun i G' c l a b=>?_,⟨ht.columns,?_,fun i G' a=>?_⟩,.inr ⟨rfl,rfl,by rw[he];exact hrow⟩⟩
  ·have a:(r.groups.drop 1)[i]?=some G':=a;rw[hget]at a;have:=hl (i+1) G' c l a b;rw[show r.gone+(i+1)=r.gone+1+i from af]at this;exact this
  ·show r.gone+1+(r.groups.drop 1).length=gs.length;have:=ht.count;rw[hk.groups,aR]at this;rw[hd1];omega
  ·have a:(r.groups.drop 1)[i]?=some G':=a;rw[hget]at a;have:=ht.rows (i+1) G' a;rw[show r.gone+(i+1)=r.gone+1+i from af]at this;exact this
 ·rw[if_neg he];exact⟨hl,⟨ht.columns,ht.count,ht.rows⟩,.inl ⟨rfl,rfl⟩⟩
end
def ahead' (gs:List (List (List Int)))(g:Nat):Nat:=((gs.take g).map fun G=>(G.getD 0 []).length).sum
def Da (gs:List (List (List Int)))(bD:List Nat)(c:Nat):List Int:=gs.flatMap fun G=>G.getD (bD.getD c 0) []
theorem JJ (bD:List Nat)(c:Nat):∀(gs:List (List (List Int)))(g i:Nat),(∀G∈gs,(G.getD (bD.getD c 0) []).length=(G.getD 0 []).length)→g<gs.length→i<((gs.getD g []).getD 0 []).length→(Da gs bD c)[ahead' gs g+i]?=some ((valOf gs bD g c).getD i 0)
 |[],_,_,_,h,_=>by simp at h
 |G::r,0,i,hG,_,hi=>by
  have h0:=hG G aj;have hi:i<(G.getD 0 []).length:=hi;show(G.getD (bD.getD c 0) []++r.flatMap _)[0+i]?=some ((G.getD (bD.getD c 0) []).getD i 0);rw[Nat.zero_add,aS af,aC (i:=i),ay af];rfl
 |G::r,g+1,i,hG,hg,hi=>by
  have h0:=hG G aj;have ih:=JJ bD c r g i (fun G' h'=>hG G' (by simp[h'])) (by simpa using hg) hi;show(G.getD (bD.getD c 0) []++r.flatMap _)[(((G::r).take (g+1)).map fun G=>(G.getD 0 []).length).sum+i]?=some ((valOf r bD g c).getD i 0);rw[List.take_succ_cons,List.map_cons,List.sum_cons,aP af];rw[show(G.getD 0 []).length+((r.take g).map fun G=>(G.getD 0 []).length).sum+i-(G.getD (bD.getD c 0) []).length=ahead' r g+i by unfold ahead';omega];exact ih
theorem Eh (gs:List (List (List Int)))(g:Nat)(h:g<gs.length):ahead' gs (g+1)=ahead' gs g+((gs.getD g []).getD 0 []).length:=by
 unfold ahead';rw[aF h,a_,List.sum_append,aC (l:=gs),ay h];simp
def posOf (gs:List (List (List Int)))(r:Rw):Nat:=ahead' gs r.gone+r.row
def Even (gs:List (List (List Int)))(bD:List Nat):Prop:=∀c,c<bD.length→∀G∈gs,(G.getD (bD.getD c 0) []).length=(G.getD 0 []).length
section
variable{gs:List (List (List Int))}{bD:List Nat}{r:Rw}{pd:List cK}
theorem R3 (he:Even gs bD)(h:iF r pd)(hl:Ah gs bD r pd)(ht:vN gs bD r)(hr:0<eF r):(∀c,c<bD.length→(Da gs bD c)[posOf gs r]?=some ((gG r).1.getD c 0))∧posOf gs (gG r).2=posOf gs r+1:=by
 obtain⟨h1,h2,h3⟩:=X5 h hl ht hr;refine⟨fun c hc=>?_,?_⟩
 ·rw[h1];unfold posOf;rw[JJ bD c gs r.gone r.row (he c hc) h3 h2];unfold rowOf;rw[aC (i:=c),aN,List.getElem?_range hc];rfl
 ·obtain⟨-,-,hk⟩:=Gt h hl ht hr;unfold posOf;rcases hk with⟨e1,e2⟩|⟨e1,e2,e3⟩
  ·rw[e1,e2];omega
  ·rw[e1,e2,Eh gs r.gone h3];omega
theorem Ei (he:Even gs bD)(h:iF r pd)(hl:Ah gs bD r pd)(ht:vN gs bD r):∀j,j≤eF r→(∀c,c<bD.length→(iter iR j ([],r)).1.map (fun row=>row.getD c 0)=((Da gs bD c).drop (posOf gs r)).take j)∧Ah gs bD (jw r j) pd∧vN gs bD (jw r j)∧posOf gs (jw r j)=posOf gs r+j
 |0,_=>⟨fun c _=>by simp[iter],hl,ht,rfl⟩
 |j+1,hj=>by
  obtain⟨a1,a2,a3,a4⟩:=Ei he h hl ht j af;obtain⟨b1,b2,-,-⟩:=h.takeN j af;have hp:0<eF (jw r j):=af;obtain⟨c1,c2⟩:=R3 he b1 a2 a3 hp;obtain⟨d1,d2,-⟩:=Gt b1 a2 a3 hp;refine⟨fun c hc=>?_,d1,d2,by show posOf gs (gG (jw r j)).2=_;rw[c2,a4];omega⟩;rw[show iter iR (j+1) ([],r)=iR (iter iR j ([],r))from rfl];have hs:∀s:List (List Int)×Rw,(iR s).1=s.1++[(gG s.2).1]:=fun _=>rfl
  rw[hs];simp only[a_,List.map_cons,List.map_nil];rw[a1 c hc];have:=c1 c hc;rw[a4]at this;rw[←List.getElem?_drop]at this;rw[List.take_add_one,this];rfl
theorem R4 (he:Even gs bD)(h:iF r pd)(hl:Ah gs bD r pd)(ht:vN gs bD r)(most:Nat):Ah gs bD (dQ r most).2 pd∧vN gs bD (dQ r most).2∧((dQ r most).1=none∧(dQ r most).2=r∨(dQ r most).1=some ((List.range bD.length).map fun c=>((Da gs bD c).drop (posOf gs r)).take (iy r most))∧posOf gs (dQ r most).2=posOf gs r+iy r most∧1≤iy r most∧(dQ r most).2.left=r.left-iy r most):=by
 unfold dQ;split
 ·exact⟨hl,ht,.inl ⟨rfl,rfl⟩⟩
 ·rename_i hc;obtain⟨a1,a2,a3,a4⟩:=Ei he h hl ht (iy r most) af;obtain⟨-,-,-,b4⟩:=h.takeN (iy r most) af;refine⟨a2,a3,.inr ⟨?_,a4,af,b4⟩⟩;simp only;rw[ht.columns]
  congr 1
  apply List.map_congr_left;intro c hc';exact a1 c (List.mem_range.1 hc')
end
end
section
open Pl
def fQ (m:Sc):Prop:=(m.asked.map (·.1)).Pairwise (·<·)∧∀q∈m.asked,1≤q.1∧q.1≤m.bW
theorem fQ.ended (why:Nat):fQ (ended why):=⟨List.Pairwise.nil,fun q hq=>by cases hq⟩
theorem fQ.ask {m:Sc}(h:fQ m)(p:Part):fQ (Pl.ask m p):=by
 refine⟨?_,fun q hq=>?_⟩
 ·show((m.asked++[(m.bW+1,p)]).map (·.1)).Pairwise (·<·);rw[a_,List.pairwise_append];refine⟨h.1,aj,fun a ha b hb=>?_⟩;obtain⟨q,hq,rfl⟩:=List.mem_map.1 ha;simp at hb;subst hb;have:=(h.2 q hq).2;omega
 ·rcases aI.1 hq with hq|hq
  ·have:=h.2 q hq;exact⟨this.1,aO this.2 (Nat.le_succ _)⟩
  ·simp at hq;subst hq;exact⟨Nat.succ_le_succ (aM _),aK _⟩
theorem fQ.take {m:Sc}(h:fQ m)(i:Nat):fQ (dF m i):=
 ⟨h.1.sublist ((List.eraseIdx_sublist m.asked i).map _),fun q hq=>h.2 q ((List.eraseIdx_sublist m.asked i).subset hq)⟩
theorem fQ.same {m m':Sc}(h:fQ m)(e1:m'.asked=m.asked)(e2:m'.bW=m.bW):fQ m':=by
 unfold fQ;rw[e1,e2];exact h
theorem fQ.M8 :∀(f:Nat)(m:Sc),fQ m→fQ (fO f m)
 |0,_,h=>h
 |f+1,m,h=>by
  unfold fO;cases m.ahead with
  |nil=>exact h
  |cons p r=>
   simp only;split
   ·exact fQ.M8 f _ (fQ.ask (m:={m with ahead:=r,opened:=m.opened+1}) h _)
   ·exact h
theorem fQ.whole {m:Sc}(h:fQ m)(gW:xK)(data:List UInt8):fQ (mO m gW data):=by
 cases gW with
 |tail=>
  show fQ (lI m data);unfold lI;cases jk data m.size with
  |none=>exact fQ.ended 2
  |some n=>exact h.ask _
 |footer=>
  show fQ (jT m data);unfold jT;cases gU data (m.size-6-data.length)with
  |none=>exact fQ.ended 2
  |some f=>
   simp only;cases columns f.names m.want with
   |none=>exact fQ.ended 3
   |some bD=>
    simp only;split
    ·exact fQ.ended 1
    ·exact fQ.M8 _ _ (h.same rfl rfl)
 |piece p=>
  show fQ (kX m p data);unfold kX;cases mM p data p.pages m.rows with
  |none=>exact fQ.ended 2
  |some r=>exact fQ.M8 _ _ (h.same rfl rfl)
theorem fQ.failed {m:Sc}(h:fQ m)(p:Part):fQ (kT m p):=by
 unfold kT;split
 ·exact fQ.ended 4
 ·exact h.same rfl rfl
theorem fQ.fail {m:Sc}(h:fQ m)(id:Int):fQ (Pl.fail m id).1:=by
 unfold Pl.fail;cases gM m.asked id with
 |none=>exact h
 |some i=>exact(h.take i).failed _
theorem fQ.answer {m:Sc}(h:fQ m)(id:Int)(l:List UInt8):fQ (Pl.answer m id l).1:=by
 unfold Pl.answer;cases gM m.asked id with
 |none=>exact h
 |some i=>
  simp only;split
  ·exact h
  ·split
   ·exact h.fail id
   ·unfold Pl.nR;simp only;split
    ·exact(h.take i).ask _
    ·exact(h.take i).whole _ _
theorem fQ.tick {m:Sc}(h:fQ m):fQ (Pl.tick m):=by
 have:∀(l:List (Nat×Part))(m:Sc)(s:List (Nat×Part)),fQ m→fQ (l.foldl eO (m,s)).1:=by
  intro l;induction l with
  |nil=>intro m s h;exact h
  |cons q l ih=>
   intro m s h;rw[List.foldl_cons];unfold eO;split
   ·exact ih m _ h
   ·exact ih _ _ (h.ask _)
 unfold Pl.tick;exact(this m.waiting m [] h).same rfl rfl
theorem fQ.next {m:Sc}(h:fQ m):fQ (Pl.next m).1:=by
 unfold Pl.next;obtain⟨a,r',he⟩:∃a r',dQ m.rows m.dh=(a,r'):=⟨_,_,rfl⟩
 rw[he];cases a with
 |none=>exact h
 |some l=>
  simp only;split
  ·exact fQ.ended 1
  ·exact h.same rfl rfl
theorem fQ.open (size:Nat)(want:List (List UInt8))(w t r g:Nat):fQ (kG size want w t r g):=by
 unfold kG;split
 ·exact fQ.ended 2
 ·exact fQ.ask ⟨List.Pairwise.nil,fun q hq=>by cases hq⟩ _
end
section
open Pl
def qp (rows:List Nat)(p:bQ):xK:=if p.kind=0 then .tail else if p.kind=1 then .footer else .piece (iY rows p)
def eX (rows:List Nat)(p:bQ):Part:=⟨p.place,p.length,p.got,p.failed,qp rows p⟩
def fE (rows:List Nat)(p:bQ):Option (Nat×Part):=if 0<p.id then some (p.id,eX rows p)else none
def eP (rows:List Nat)(p:bQ):Option (Nat×Nat×Part):=if 0<p.due then some (p.turn,p.due,eX rows p)else none
structure gK (m:Sc)(r:cO):Prop where
 made:m.bW=r.made
 asked:m.asked.Perm (r.pieces.filterMap (fE r.rows))
 waits:∃W:List (Nat×Nat×Part),W.Pairwise (fun a b=>a.1<b.1)∧m.waiting=W.map (fun q=>(q.2.1-r.now,q.2.2))∧W.Perm (r.pieces.filterMap (eP r.rows))∧∀q∈W,q.1≤r.fails∧r.now<q.2.1
 one:∀p∈r.pieces,p.id=0∨p.due=0
theorem oo {α:Type}(f:α→α)(A:List α)(p:α)(B:List α):(A++p::B).modify A.length f=A++f p::B:=by
 induction A with
 |nil=>rfl
 |cons a A ih=>simp only[List.cons_append,aR,List.modify_succ_cons,ih]
theorem fC {α β:Type}(g:α→Option β)(A:List α)(p:α)(B:List α):((A++p::B).filterMap g).Perm ((g p).toList++(A++B).filterMap g):=by
 rw[List.filterMap_append,List.filterMap_append,List.filterMap_cons];cases g p with
 |none=>exact .refl _
 |some b=>exact List.perm_middle
theorem qV {α:Type}[Inhabited α](A:List α)(p:α)(B:List α):(A++p::B).getD A.length default=p:=by
 rw[aC,aP (aK _),Nat.sub_self];rfl
theorem aaw {l:List (Nat×Part)}(h:(l.map (·.1)).Pairwise (·<·)){a b:Nat×Part}(ha:a∈l)(hb:b∈l)(e:a.1=b.1):a=b:=by
 induction l with
 |nil=>cases ha
 |cons x l ih=>
  rw[List.map_cons,List.pairwise_cons]at h;rcases List.mem_cons.1 ha with ea|ha'
  ·rcases List.mem_cons.1 hb with eb|hb'
   ·rw[ea,eb]
   ·have:=h.1 b.1 (List.mem_map.2 ⟨b,hb',rfl⟩);rw[ea]at e;omega
  ·rcases List.mem_cons.1 hb with eb|hb'
   ·have:=h.1 a.1 (List.mem_map.2 ⟨a,ha',rfl⟩);rw[eb]at e;omega
   ·exact ih h.2 ha' hb'
theorem gK.find {m:Sc}{r:cO}(h:gK m r)(hi:fQ m)(hs:r.state=0)(id:Int):
 (gM m.asked id=none∧iO r id=none)∨
 ∃i A p B,gM m.asked id=some i∧iO r id=some A.length∧r.pieces=A++p::B∧(p.id:Int)=id∧0<p.id∧p.due=0∧Pl.partAt m i=eX r.rows p∧(m.asked.eraseIdx i).Perm ((A++B).filterMap (fE r.rows)):=by
 have hback:∀q∈m.asked,∃p∈r.pieces,0<p.id∧q=(p.id,eX r.rows p):=fun q hq=>by
  have:=h.asked.mem_iff.1 hq;obtain⟨p,hp,e⟩:=List.mem_filterMap.1 this;unfold fE at e;split at e
  ·cases e;exact⟨p,hp,by assumption,rfl⟩
  ·cases e
 cases hf:iO r id with
 |none=>
  left;refine⟨?_,rfl⟩;unfold gM;rw[List.findIdx?_eq_none_iff];intro q hq;obtain⟨p,hp,h0,rfl⟩:=hback q hq;unfold iO at hf;by_cases hid:0<id
  ·rw[if_pos ⟨hs,hid⟩,List.findIdx?_eq_none_iff]at hf;exact hf p hp
  ·exact aG (by simp only;omega)
 |some j=>
  right;unfold iO at hf;by_cases hid:0<id
  ·rw[if_pos ⟨hs,hid⟩,List.findIdx?_eq_some_iff_getElem]at hf;obtain⟨hj,Zw,-⟩:=hf;have Zw:((r.pieces[j]).id:Int)=id:=by simpa using Zw
   have hsp:r.pieces=r.pieces.take j++r.pieces[j]::r.pieces.drop (j+1):=by rw[List.getElem_cons_drop,List.take_append_drop]
   have hlen:(r.pieces.take j).length=j:=by rw[aU];omega
   have h0:0<(r.pieces[j]).id:=af;have hmem:((r.pieces[j]).id,eX r.rows r.pieces[j])∈m.asked:=h.asked.mem_iff.2 (List.mem_filterMap.2 ⟨r.pieces[j],aJ hj,by unfold fE;rw[if_pos h0]⟩);cases hfi:gM m.asked id with
   |none=>
    unfold gM at hfi;rw[List.findIdx?_eq_none_iff]at hfi;have:=hfi _ hmem;simp[Zw]at this
   |some i=>
    have X6:=hfi;unfold gM at X6;rw[List.findIdx?_eq_some_iff_getElem]at X6;obtain⟨hil,hqi,-⟩:=X6;have hqi:((m.asked[i]).1:Int)=id:=by simpa using hqi
    have he:m.asked[i]=((r.pieces[j]).id,eX r.rows r.pieces[j]):=aaw hi.1 (aJ hil) hmem (by simp only;omega);refine⟨i,r.pieces.take j,r.pieces[j],r.pieces.drop (j+1),rfl,by rw[hlen],hsp,Zw,h0,?_,?_,?_⟩
    ·rcases h.one _ (aJ hj)with e|e
     ·omega
     ·exact e
    ·unfold Pl.partAt;rw[aC,ay hil,he];rfl
    ·have h1:=(ve m.asked i hil).trans h.asked;have h2:=fC (fE r.rows) (r.pieces.take j) r.pieces[j] (r.pieces.drop (j+1));rw[←hsp]at h2;have h3:=h1.trans h2;have e1:fE r.rows r.pieces[j]=some ((r.pieces[j]).id,eX r.rows r.pieces[j]):=by unfold fE;rw[if_pos h0]
     rw[he,e1]at h3;exact h3.cons_inv
  ·rw[if_neg (fun e=>hid e.2)]at hf;cases hf
theorem Cg {r:cO}{A B:List bQ}{p:bQ}(hr:r.pieces=A++p::B)(hd:p.due=0):(r.pieces.filterMap (eP r.rows)).Perm ((A++B).filterMap (eP r.rows)):=by
 have h2:=fC (eP r.rows) A p B;rw[←hr]at h2;have e1:eP r.rows p=none:=by unfold eP;rw[if_neg af]
 rw[e1]at h2;exact h2
section
variable{m:Sc}{r:cO}{A B:List bQ}{p:bQ}{i:Nat}
theorem gK.mem (hr:r.pieces=A++p::B){q:bQ}(hq:q∈A++B):q∈r.pieces:=by
 rw[hr];rcases aI.1 hq with h|h
 ·exact aI.2 (.inl h)
 ·exact aI.2 (.inr (List.mem_cons_of_mem _ h))
theorem nK {q p':bQ}(hq:q∈A++p'::B):q=p'∨q∈A++B:=by
 rcases aI.1 hq with h|h
 ·exact .inr (aI.2 (.inl h))
 ·rcases List.mem_cons.1 h with h|h
  ·exact .inl h
  ·exact .inr (aI.2 (.inr h))
theorem gK.gone (h:gK m r)(hr:r.pieces=A++p::B)(hd:p.due=0)(he:(m.asked.eraseIdx i).Perm ((A++B).filterMap (fE r.rows)))(p':bQ)(hp:p'.id=0)(F7:p'.due=0):gK (dF m i) {r with pieces:=A++p'::B}:=by
 refine⟨h.made,?_,?_,fun q hq=>?_⟩
 ·refine he.trans ?_;have:=fC (fE r.rows) A p' B;rw[show fE r.rows p'=none by unfold fE;rw[if_neg af]]at this;exact this.symm
 ·obtain⟨W,w1,w2,w3,w4⟩:=h.waits;refine⟨W,w1,w2,(w3.trans (Cg hr hd)).trans ?_,w4⟩;have:=fC (eP r.rows) A p' B;rw[show eP r.rows p'=none by unfold eP;rw[if_neg af]]at this;exact this.symm
 ·rcases nK hq with rfl|hq
  ·exact .inl hp
  ·exact h.one q (gK.mem hr hq)
theorem gK.again (h:gK m r)(hr:r.pieces=A++p::B)(hd:p.due=0)(he:(m.asked.eraseIdx i).Perm ((A++B).filterMap (fE r.rows)))(p':bQ)(hp:p'.id=r.made+1)(F7:p'.due=0):gK (Pl.ask (dF m i) (eX r.rows p')) {r with pieces:=A++p'::B,made:=r.made+1}:=by
 refine⟨by show m.bW+1=_;rw[h.made],?_,?_,fun q hq=>?_⟩
 ·show(m.asked.eraseIdx i++[(m.bW+1,eX r.rows p')]).Perm _;refine(he.append_right _).trans ?_;have:=fC (fE r.rows) A p' B;rw[show fE r.rows p'=some (r.made+1,eX r.rows p') by unfold fE;rw[if_pos af,hp]]at this;rw[h.made];exact(List.perm_append_comm).trans this.symm
 ·obtain⟨W,w1,w2,w3,w4⟩:=h.waits;refine⟨W,w1,w2,(w3.trans (Cg hr hd)).trans ?_,w4⟩;have:=fC (eP r.rows) A p' B;rw[show eP r.rows p'=none by unfold eP;rw[if_neg af]]at this;exact this.symm
 ·rcases nK hq with rfl|hq
  ·exact .inr F7
  ·exact h.one q (gK.mem hr hq)
theorem gK.fails (h:gK m r)(hr:r.pieces=A++p::B)(hd:p.due=0)(he:(m.asked.eraseIdx i).Perm ((A++B).filterMap (fE r.rows)))(p':bQ)(k:Nat)(hk:0<k)(hp:p'.id=0)(F7:p'.due=r.now+k)(hpt:p'.turn=r.fails+1):gK {dF m i with waiting:=m.waiting++[(k,eX r.rows p')]} {r with pieces:=A++p'::B,fails:=r.fails+1}:=by
 refine⟨h.made,?_,?_,fun q hq=>?_⟩
 ·refine he.trans ?_;have:=fC (fE r.rows) A p' B;rw[show fE r.rows p'=none by unfold fE;rw[if_neg af]]at this;exact this.symm
 ·obtain⟨W,w1,w2,w3,w4⟩:=h.waits;refine⟨W++[(r.fails+1,r.now+k,eX r.rows p')],?_,?_,?_,fun q hq=>?_⟩
  ·rw[List.pairwise_append];refine⟨w1,aj,fun a ha b hb=>?_⟩;simp at hb;subst hb;have:=(w4 a ha).1;simp only;omega
  ·show m.waiting++[(k,eX r.rows p')]=(W++[(r.fails+1,r.now+k,eX r.rows p')]).map (fun q:Nat×Nat×Part=>(q.2.1-r.now,q.2.2));rw[a_,w2];simp
  ·refine((w3.trans (Cg hr hd)).append_right _).trans ?_;have:=fC (eP r.rows) A p' B;rw[show eP r.rows p'=some (r.fails+1,r.now+k,eX r.rows p') by unfold eP;rw[if_pos af,hpt,F7]]at this;exact(List.perm_append_comm).trans this.symm
  ·show q.1≤r.fails+1∧r.now<q.2.1;rcases aI.1 hq with hq|hq
   ·have:=w4 q hq;omega
   ·simp at hq;subst hq;simp only;omega
 ·rcases nK hq with rfl|hq
  ·exact .inl hp
  ·exact h.one q (gK.mem hr hq)
end
theorem yY {now:Nat}{l:List bQ}:∀{k:Nat},iP now l k=none→∀b,b<k→nu now (l.getD b default)=false
 |0,_,b,hb=>af
 |k+1,h,b,hb=>by
  unfold iP at h;cases e:iP now l k with
  |none=>
   rw[e]at h;simp only at h;split at h
   ·cases h
   ·by_cases M9:b=k
    ·rw[M9];exact Bool.eq_false_iff.2 (by assumption)
    ·exact yY e b af
  |some a=>rw[e]at h;simp only at h;split at h<;>cases h
theorem qG {now:Nat}{l:List bQ}:∀{k a:Nat},iP now l k=some a→a<k∧nu now (l.getD a default)=true∧∀b,b<k→nu now (l.getD b default)=true→(l.getD a default).turn≤(l.getD b default).turn
 |0,a,h=>by cases h
 |k+1,a,h=>by
  unfold iP at h;cases e:iP now l k with
  |none=>
   rw[e]at h;simp only at h;split at h
   ·cases h;refine⟨Nat.lt_succ_self _,by assumption,fun b hb hd=>?_⟩;by_cases M9:b=k
    ·rw[M9];exact aK _
    ·exfalso;rw[yY e b af]at hd;cases hd
   ·cases h
  |some a'=>
   obtain⟨h1,h2,h3⟩:=qG e;rw[e]at h;simp only at h;split at h
   ·rename_i hc;cases h;refine⟨Nat.lt_succ_self _,hc.1,fun b hb hd=>?_⟩;by_cases M9:b=k
    ·rw[M9];exact aK _
    ·have:=h3 b af hd;omega
   ·rename_i hc;cases h;refine⟨af,h2,fun b hb hd=>?_⟩;by_cases M9:b=k
    ·subst M9;have:¬(l.getD b default).turn<(l.getD a default).turn:=fun e=>hc ⟨hd,e⟩
     omega
    ·exact h3 b af hd
theorem yA (now:Nat)(p:bQ):nu now p=true↔0<p.due∧p.due≤now:=by unfold nu;simp
theorem U7 :∀(S K:List (Nat×Nat×Part))(f:Nat)(m:Sc)(r:cO),(K++S).Pairwise (fun a b=>a.1<b.1)→(K++S).Perm (r.pieces.filterMap (eP r.rows))→(∀q∈K++S,q.1≤r.fails)→(∀q∈K,r.now<q.2.1)→(∀q∈S,r.now≤q.2.1)→S.length≤f→1≤r.now→
 m.bW=r.made→m.asked.Perm (r.pieces.filterMap (fE r.rows))→(∀p∈r.pieces,p.id=0∨p.due=0)→∀w0,
 gK {((S.map fun q=>(q.2.1-(r.now-1),q.2.2)).foldl eO (m,w0++K.map fun q=>(q.2.1-r.now,q.2.2))).1 with waiting:=(((S.map fun q=>(q.2.1-(r.now-1),q.2.2)).foldl eO (m,w0++K.map fun q=>(q.2.1-r.now,q.2.2))).2).drop w0.length} (jh f r)∧
 ∃(ps:List bQ)(k:Nat),jh f r={r with pieces:=ps,made:=r.made+k}∧k≤S.length∧ps.length=r.pieces.length∧(∀(j:Nat)(q:bQ),ps[j]?=some q→∃p:bQ,r.pieces[j]?=some p∧(q=p∨(0<p.due∧∃n,q={p with id:=n+1,due:=0}))):=by
 intro S;induction S with
 |nil=>
  intro K f m r hs hp hf hk _ _ _ hm ha ho w0;rw[List.append_nil]at hs hp hf;have hnone:Hw r=none:=by
   cases e:Hw r with
   |none=>rfl
   |some a=>
    obtain⟨h1,h2,-⟩:=qG e;rw[yA]at h2;have hg:r.pieces.getD a default=r.pieces[a]:=by rw[aC,ay h1];rfl
    rw[hg]at h2;have:=hp.mem_iff.2 (List.mem_filterMap.2 ⟨r.pieces[a],aJ h1,by unfold eP;rw[if_pos h2.1]⟩);have:=hk _ this;simp only at this;omega
  have e:jh f r=r:=by
   cases f with
   |zero=>rfl
   |succ f=>unfold jh;rw[hnone]
  rw[e];refine⟨⟨hm,ha,⟨K,hs,?_,hp,fun q hq=>⟨hf q hq,hk q hq⟩⟩,ho⟩,r.pieces,0,rfl,aK _,rfl,fun j q hq=>⟨q,hq,.inl rfl⟩⟩;simp
 |cons q S ih=>
  intro K f m r hs hp hf hk hS hlen adE hm ha ho w0;simp only[List.map_cons,List.foldl_cons];have hqS:=hS q aj;by_cases hq:r.now<q.2.1
  ·
   have e:eO (m,w0++K.map fun q=>(q.2.1-r.now,q.2.2)) (q.2.1-(r.now-1),q.2.2)=(m,w0++(K++[q]).map fun q=>(q.2.1-r.now,q.2.2)):=by
    unfold eO;rw[if_pos (by simp only;omega)];simp only[a_,List.map_cons,List.map_nil,aW];rw[show q.2.1-(r.now-1)-1=q.2.1-r.now from af]
   rw[e];have:=ih (K++[q]) f m r (by simpa using hs) (by simpa using hp) (by simpa using hf) (fun x hx=>by
    rcases aI.1 hx with hx|hx
    ·exact hk x hx
    ·obtain rfl:=aZ.1 hx;exact hq) (fun x hx=>hS x (by simp[hx])) (by simp at hlen;omega) adE hm ha ho w0
   obtain⟨h1,ps,k,h2,h3,h4⟩:=this;exact⟨h1,ps,k,h2,by simp;omega,h4⟩
  ·
   have hqn:q.2.1=r.now:=af;have e:eO (m,w0++K.map fun q=>(q.2.1-r.now,q.2.2)) (q.2.1-(r.now-1),q.2.2)=(Pl.ask m q.2.2,w0++K.map fun q=>(q.2.1-r.now,q.2.2)):=by
    unfold eO;rw[if_neg (by simp only;omega)]
   rw[e];obtain⟨p0,hp0,e0⟩:=List.mem_filterMap.1 (hp.mem_iff.1 (show q∈K++q::S from aj));have X7:0<p0.due∧q=(p0.turn,p0.due,eX r.rows p0):=by
    unfold eP at e0;split at e0
    ·cases e0;exact⟨by assumption,rfl⟩
    ·cases e0
   obtain⟨j0,hj0,adF⟩:=List.mem_iff_getElem.1 hp0;have hg:∀a(h:a<r.pieces.length),r.pieces.getD a default=r.pieces[a]:=fun a h=>by rw[aC,ay h];rfl
   have hd0:nu r.now (r.pieces.getD j0 default)=true:=by
    rw[hg j0 hj0,adF,yA];have:=X7.2;rw[this]at hqn;exact⟨X7.1,by simp only at hqn;omega⟩
   cases ed:Hw r with
   |none=>rw[yY ed j0 hj0]at hd0;cases hd0
   |some a=>
    obtain⟨h1,h2,h3⟩:=qG ed;obtain⟨pa,hpa⟩:∃pa,r.pieces[a]=pa:=⟨_,rfl⟩
    have hga:r.pieces.getD a default=pa:=(hg a h1).trans hpa;have hpm:pa∈r.pieces:=hpa▸aJ h1;have hmin:=h3 j0 hj0 hd0;rw[hga,hg j0 hj0,adF]at hmin;rw[hga,yA]at h2;have hwa:eP r.rows pa=some (pa.turn,pa.due,eX r.rows pa):=by unfold eP;rw[if_pos h2.1]
    have hmem:=hp.mem_iff.2 (List.mem_filterMap.2 ⟨pa,hpm,hwa⟩);have hqa:(pa.turn,pa.due,eX r.rows pa)=q:=by
     rcases aI.1 hmem with h|h
     ·have:=hk _ h;simp only at this;omega
     ·rcases List.mem_cons.1 h with h|h
      ·exact h
      ·exfalso;have h5:=(List.pairwise_append.1 hs).2.1;rw[List.pairwise_cons]at h5;have:=h5.1 _ h;rw[X7.2]at this;simp only at this;omega
    have hpart:eX r.rows pa=q.2.2:=by rw[←hqa]
    have anu:pa.id=0:=by
     rcases ho _ hpm with h|h
     ·exact h
     ·omega
    have hsp:r.pieces=r.pieces.take a++pa::r.pieces.drop (a+1):=by rw[←hpa,List.getElem_cons_drop,List.take_append_drop]
    have hal:(r.pieces.take a).length=a:=by rw[aU];omega
    generalize hA:r.pieces.take a=A at*;generalize hB:r.pieces.drop (a+1)=B at*;have hmk:fB r a={r with made:=r.made+1,pieces:=A++{pa with id:=r.made+1,due:=0}::B}:=by
     unfold fB
     congr 1
     have h9:=oo (fun p:bQ=>{p with id:=r.made+1,due:=0}) A pa B;rw[←hsp,hal]at h9;exact h9
    have adG:eX r.rows {pa with id:=r.made+1,due:=0}=q.2.2:=hpart;obtain⟨f,rfl⟩:∃g,f=g+1:=⟨f-1,by simp at hlen;omega⟩
    have hst:jh (f+1) r=jh f (fB r a):=by
     conv=>lhs;unfold jh
     rw[ed]
    rw[hst];have hwp:(K++S).Perm ((A++B).filterMap (eP r.rows)):=by
     have h6:=fC (eP r.rows) A pa B;rw[←hsp,hwa,hqa]at h6;have h7:(q::(K++S)).Perm (q::(A++B).filterMap (eP r.rows)):=List.perm_middle.symm.trans (hp.trans h6);exact h7.cons_inv
    have hap:(r.pieces.filterMap (fE r.rows)).Perm ((A++B).filterMap (fE r.rows)):=by
     have h6:=fC (fE r.rows) A pa B;rw[←hsp,show fE r.rows pa=none by unfold fE;rw[if_neg af]]at h6;exact h6
    have hsub:∀x∈K++S,x∈K++q::S:=fun x hx=>by
     rcases aI.1 hx with hx|hx
     ·exact aI.2 (.inl hx)
     ·exact aI.2 (.inr (List.mem_cons_of_mem _ hx))
    have:=ih K f (Pl.ask m q.2.2) (fB r a) (hs.sublist (List.Sublist.append_left (List.sublist_cons_self q S) K)) ?_ (by rw[hmk];exact fun x hx=>hf x (hsub x hx)) (by rw[hmk];exact hk) (by rw[hmk];exact fun x hx=>hS x (by simp[hx])) (by simp at hlen;omega) (by rw[hmk];exact adE) (by rw[hmk];show m.bW+1=r.made+1;rw[hm]) ?_ ?_ w0
    ·have ajb:(fB r a).now=r.now:=rfl;rw[ajb]at this;obtain⟨g1,ps,k,g2,g3,g4,g5⟩:=this;refine⟨g1,ps,k+1,?_,by simp;omega,?_,fun j x hx=>?_⟩
     ·rw[g2,hmk];simp only;rw[Nat.add_assoc,Nat.add_comm 1 k]
     ·rw[g4,hmk,hsp];simp
     ·obtain⟨p1,hp1,hx1⟩:=g5 j x hx;have hp1':(r.pieces.modify a fun p=>{p with id:=r.made+1,due:=0})[j]?=some p1:=hp1;rw[List.getElem?_modify]at hp1';cases hj:r.pieces[j]? with
      |none=>rw[hj]at hp1';simp at hp1'
      |some pj=>
       rw[hj]at hp1';refine⟨pj,rfl,?_⟩;by_cases eja:a=j
       ·simp[eja]at hp1';subst hp1';have:pj=pa:=by subst eja;rw[ay h1,hpa]at hj;exact(Option.some.inj hj).symm
        right;refine⟨by rw[this];exact h2.1,r.made,?_⟩;rcases hx1 with rfl|⟨hd,-⟩
        ·rfl
        ·exact absurd hd (by show¬0<0;omega)
       ·simp[eja]at hp1';subst hp1';exact hx1
    ·rw[hmk];refine hwp.trans ?_;have h6:=fC (eP r.rows) A {pa with id:=r.made+1,due:=0} B;rw[show eP r.rows {pa with id:=r.made+1,due:=0}=none by unfold eP;rw[if_neg aj]]at h6;exact h6.symm
    ·rw[hmk];show(m.asked++[(m.bW+1,q.2.2)]).Perm _;refine((ha.trans hap).append_right _).trans ?_;have h6:=fC (fE r.rows) A {pa with id:=r.made+1,due:=0} B;rw[show fE r.rows {pa with id:=r.made+1,due:=0}=some (r.made+1,q.2.2) by unfold fE;rw[if_pos aj,adG]]at h6;rw[hm];exact(List.perm_append_comm).trans h6.symm
    ·rw[hmk];intro x hx;rcases nK hx with rfl|hx
     ·exact .inr rfl
     ·exact ho x (gK.mem hsp hx)
theorem gK.tick {m:Sc}{r:cO}(h:gK m r)(hs:r.state=0)(hw:m.waiting.length≤r.pieces.length):gK (Pl.tick m) (lG r)∧∃(ps:List bQ)(k:Nat),lG r={r with pieces:=ps,made:=r.made+k,now:=r.now+1}∧k≤m.waiting.length∧ps.length=r.pieces.length∧(∀(j:Nat)(q:bQ),ps[j]?=some q→∃p:bQ,r.pieces[j]?=some p∧(q=p∨(0<p.due∧∃n,q={p with id:=n+1,due:=0}))):=by
 obtain⟨W,w1,w2,w3,w4⟩:=h.waits;have hl:W.length=m.waiting.length:=by rw[w2];simp
 have:=U7 W [] r.pieces.length m {r with now:=r.now+1} (by simpa using w1) (by simpa using w3) (by intro q hq;exact(w4 q (by simpa using hq)).1) (fun q hq=>by cases hq) (fun q hq=>(w4 q hq).2) (by show W.length≤r.pieces.length;omega) (by show 1≤r.now+1;omega) h.made h.asked h.one [];obtain⟨g1,ps,k,g2,g3,g4,g5⟩:=this;have et:lG r=jh r.pieces.length {r with now:=r.now+1}:=by unfold lG;rw[if_pos hs]
 rw[et];refine⟨?_,ps,k,g2,af,g4,g5⟩;have ew:(W.map fun q=>(q.2.1-(r.now+1-1),q.2.2))=m.waiting:=by rw[w2];rfl
 unfold Pl.tick;simp only[List.map_nil,List.append_nil,List.length_nil,List.drop_zero]at g1;have ew':(W.map fun q:Nat×Nat×Part=>(q.2.1-(({r with now:=r.now+1}:cO).now-1),q.2.2))=m.waiting:=ew;rw[ew']at g1;exact g1
end
section
open Pl
structure nM (rw:Rw)(rows:List Nat)(there:List (List (List Int)))(next:Nat):Prop where
 len:there.length=rows.length
 Ai:∀(g:Nat)t,there[g]?=some t→t.length=rw.columns
 cnt:rw.gone+rw.groups.length=rows.length
 nH:∀(i:Nat)G,rw.groups[i]?=some G→rows[rw.gone+i]?=some G.rows∧there[rw.gone+i]?=some G.lists
 gone:∀(g:Nat)t,g<rw.gone→there[g]?=some t→∀l∈t,0<l.length
 lens:∀(g:Nat)t l,there[g]?=some t→l∈t→l=[]∨rows[g]?=some l.length
 next:next=(rows.take rw.gone).sum+rw.row
section
variable{rw:Rw}{rows:List Nat}{there:List (List (List Int))}{next:Nat}{pd:List cK}
theorem nM.put {x:cK}{l:List Int}(h:nM rw rows there next)(hg:iF rw (x::pd))(hl:l.length=x.rows):nM (kz rw x.group x.column l) rows (there.modify x.group fun ls=>ls.set x.column l) next:=by
 obtain⟨p1,p2,p3⟩:=hg.DX x aj;have hpr:=hg.ES x aj;have hi:x.group-rw.gone<rw.groups.length:=af;rw[ay hi]at hpr;have hG:=h.nH _ _ (ay hi);rw[show rw.gone+(x.group-rw.gone)=x.group from af]at hG;have hr:rows[x.group]?=some x.rows:=by rw[hG.1];simpa using hpr
 have hm:∀(g:Nat)t,(there.modify x.group fun ls=>ls.set x.column l)[g]?=some t→∃t0,there[g]?=some t0∧(t=t0∧g≠x.group∨g=x.group∧t=t0.set x.column l):=fun g t ht=>by
  rw[List.getElem?_modify]at ht;cases e:there[g]? with
  |none=>rw[e]at ht;simp at ht
  |some t0=>
   rw[e]at ht;refine⟨t0,rfl,?_⟩;by_cases eg:x.group=g
   ·simp[eg]at ht;exact .inr ⟨eg.symm,ht.symm⟩
   ·simp[eg]at ht;exact .inl ⟨ht.symm,fun e=>eg e.symm⟩
 refine⟨by rw[List.length_modify];exact h.len,fun g t ht=>?_,by rw[BQ];exact h.cnt,fun i G' hG'=>?_,fun g t hgo ht=>?_,fun g t q ht hq=>?_,h.next⟩
 ·obtain⟨t0,h0,⟨rfl,-⟩|⟨-,rfl⟩⟩:=hm g t ht
  ·exact h.Ai g t h0
  ·rw[List.length_set];exact h.Ai g t0 h0
 ·show rows[rw.gone+i]?=some G'.rows∧(there.modify x.group fun ls=>ls.set x.column l)[rw.gone+i]?=some G'.lists;rcases U6 hG' with⟨rfl,G,a,rfl⟩|⟨hne,a⟩
  ·have:=h.nH _ _ a;rw[show rw.gone+(x.group-rw.gone)=x.group from af]at this⊢;refine⟨this.1,?_⟩;rw[List.getElem?_modify,this.2];simp
  ·have:=h.nH _ _ a;refine⟨this.1,?_⟩;rw[List.getElem?_modify,this.2];simp;intro e;omega
 ·have hgo:g<rw.gone:=hgo;obtain⟨t0,h0,⟨rfl,-⟩|⟨e,-⟩⟩:=hm g t ht
  ·exact h.gone g t hgo h0
  ·omega
 ·obtain⟨t0,h0,⟨rfl,-⟩|⟨rfl,rfl⟩⟩:=hm g t ht
  ·exact h.lens g t q h0 hq
  ·rcases List.mem_or_eq_of_mem_set hq with hq|rfl
   ·exact h.lens _ t0 q h0 hq
   ·exact .inr (by rw[hl];exact hr)
theorem nM.take (h:nM rw rows there next)(hg:iF rw pd)(hr:0<eF rw):nM (gG rw).2 rows there (next+1):=by
 obtain⟨G,rest,ht,hm⟩:=hg.first hr;have hgr:=ht.groups;have hG0:rw.groups[0]?=some G:=by rw[hgr];rfl
 have hG:=h.nH 0 G hG0;rw[Nat.add_zero]at hG;obtain⟨g1,g2,g3,g4,g5⟩:=hg.nH 0 G hG0;have hd:rw.groups.getD 0 default=G:=by rw[hgr];rfl
 have hcnt:=h.cnt;unfold gG;simp only[hd];have hgl:rw.gone<rows.length:=by rw[hgr,aR]at hcnt;omega
 have hrw:rows[rw.gone]=G.rows:=by
  have:=hG.1;rw[ay hgl]at this;exact Option.some.inj this
 by_cases he:rw.row+1=G.rows
 ·rw[if_pos he];have hd1:rw.groups.drop 1=rest:=by rw[hgr];rfl
  refine⟨h.len,h.Ai,?_,fun i G' hG'=>?_,fun g t hgo hgt=>?_,h.lens,?_⟩
  ·show rw.gone+1+(rw.groups.drop 1).length=rows.length;rw[hd1];rw[hgr,aR]at hcnt;omega
  ·have hG':(rw.groups.drop 1)[i]?=some G':=hG';rw[List.getElem?_drop]at hG';have:=h.nH _ _ hG';rw[show rw.gone+(1+i)=rw.gone+1+i from af]at this;exact this
  ·have hgo:g<rw.gone+1:=hgo;by_cases e:g=rw.gone
   ·subst e;rw[hG.2]at hgt;cases hgt;intro l hl;obtain⟨c,hc,rfl⟩:=List.mem_iff_getElem.1 hl;rcases g5 c _ (ay hc)with e|⟨y,hy,hyg,-⟩
    ·omega
    ·exact absurd hyg (sj (by rw[←g4];exact hm) y hy)
   ·exact h.gone g t af hgt
  ·show next+1=(rows.take (rw.gone+1)).sum+0;rw[aF hgl,List.sum_append,h.next];simp;omega
 ·rw[if_neg he];refine⟨h.len,h.Ai,h.cnt,h.nH,h.gone,h.lens,?_⟩;show next+1=_+(rw.row+1);rw[h.next];rfl
theorem nM.takeN (h:nM rw rows there next)(hg:iF rw pd):∀j,j≤eF rw→nM (jw rw j) rows there (next+j)
 |0,_=>h
 |j+1,hj=>by
  have h1:=h.takeN hg j af;obtain⟨a,b,-,-⟩:=hg.takeN j af;exact h1.take a af
def X8 (there:List (List (List Int)))(pd:List cK):Prop:=∀x∈pd,(there.getD x.group []).getD x.column []=[]
theorem Ej :∀(R1 R2:List Nat)(T1 T2:List (List (List Int))),R1.length=T1.length→(∀t∈T1,∀l∈t,0<l.length)→gQ (R1++R2) (T1++T2)=R1.sum+gQ R2 T2
 |[],R2,[],T2,_,_=>aj
 |n::R1,R2,t::T1,T2,h,ht=>by
  have ih:=Ej R1 R2 T1 T2 (by simpa using h) (fun t' h'=>ht t' (by simp[h']));show gQ (n::(R1++R2)) (t::(T1++T2))=_;show(if t.all (fun l=>decide (0<l.length))=true then n+gQ (R1++R2) (T1++T2)else 0)=_;rw[if_pos,ih,List.sum_cons]
  ·omega
  ·rw[List.all_eq_true];exact fun l hl=>aH (ht t aj l hl)
 |[],_,_::_,_,h,_=>by simp at h
 |_::_,_,[],_,h,_=>by simp at h
theorem Gu :∀(L:List gF),(∀G∈L,(0<G.missing↔¬∀l∈G.lists,0<l.length))→gQ (L.map (·.rows)) (L.map (·.lists))=fu L
 |[],_=>rfl
 |G::L,h=>by
  have ih:=Gu L (fun G' h'=>h G' (by simp[h']));rw[List.map_cons,List.map_cons];unfold gQ fu;have:=h G aj;by_cases hm:0<G.missing
  ·rw[if_pos hm,if_neg];rw[List.all_eq_true];exact fun e=>this.1 hm (fun l hl=>of_decide_eq_true (e l hl))
  ·rw[if_neg hm,if_pos,ih];rw[List.all_eq_true];exact fun l hl=>aH (Classical.byContradiction fun hn=>hm (this.2 fun e=>hn (e l hl)))
theorem nM.ready (h:nM rw rows there next)(hg:iF rw pd)(he:X8 there pd):gQ rows there=(rows.take rw.gone).sum+fu rw.groups:=by
 have hR:rows.drop rw.gone=rw.groups.map (·.rows):=by
  apply List.ext_getElem?;intro i;rw[List.getElem?_drop,aN];by_cases hi:i<rw.groups.length
  ·rw[(h.nH i _ (ay hi)).1,ay hi];rfl
  ·have:=h.cnt;rw[bn af,bn af];rfl
 have hT:there.drop rw.gone=rw.groups.map (·.lists):=by
  apply List.ext_getElem?;intro i;rw[List.getElem?_drop,aN];by_cases hi:i<rw.groups.length
  ·rw[(h.nH i _ (ay hi)).2,ay hi];rfl
  ·have:=h.cnt;have:=h.len;rw[bn af,bn af];rfl
 have hc:=h.cnt;have hl:=h.len
 conv=>lhs;rw[←List.take_append_drop rw.gone rows,←List.take_append_drop rw.gone there]
 rw[Ej _ _ _ _ (by rw[aU,aU];omega) (fun t ht=>by
  obtain⟨g,hgl,rfl⟩:=List.mem_iff_getElem.1 ht;rw[aU]at hgl;rw[List.getElem_take];exact h.gone g _ af (ay af)),hR,hT,Gu]
 intro G hG;obtain⟨i,hi,rfl⟩:=List.mem_iff_getElem.1 hG;obtain⟨g1,g2,g3,g4,g5⟩:=hg.nH i _ (ay hi);have ht:=(h.nH i _ (ay hi)).2;constructor
 ·intro hm hall;rw[g4]at hm;obtain⟨x,hx⟩:=List.exists_mem_of_length_pos hm;obtain⟨hx1,hx2⟩:=List.mem_filter.1 hx;have hx2:x.group=rw.gone+i:=by simpa using hx2
  have h3:=(hg.DX x hx1).2.2;have h5:=he x hx1;rw[aC (l:=there),hx2,ht]at h5;have hcl:x.column<(rw.groups[i]).lists.length:=af;have h6:((rw.groups[i]).lists.getD x.column [])=(rw.groups[i]).lists[x.column]:=by rw[aC,ay hcl];rfl
  have h7:(rw.groups[i]).lists.getD x.column []=[]:=h5;rw[h6]at h7;have:=hall _ (aJ hcl);rw[h7]at this;simp at this
 ·intro hn;refine Classical.byContradiction fun h0=>hn fun l hl=>?_
  obtain⟨c,hcl,rfl⟩:=List.mem_iff_getElem.1 hl;rcases g5 c _ (ay hcl)with e|⟨y,hy,hyg,-⟩
  ·omega
  ·exact absurd hyg (sj (by rw[←g4];omega) y hy)
def vt (rows:List Nat)(there:List (List (List Int)))(n:Nat):List (List (List Int)):=(List.range rows.length).map fun g=>(List.range n).map fun c=>(List.range (rows.getD g 0)).map fun k=>((there.getD g []).getD c []).getD k 0
theorem U8 :(vt rows there next).length=rows.length:=by simp[vt]
theorem M_ (n g:Nat)(hg:g<rows.length):(vt rows there n).getD g []=(List.range n).map fun c=>(List.range (rows.getD g 0)).map fun k=>((there.getD g []).getD c []).getD k 0:=by
 unfold vt;rw[aC,aN,List.getElem?_range hg];rfl
theorem adI (n g c:Nat)(hg:g<rows.length)(hc:c<n):valOf (vt rows there n) (List.range n) g c=(List.range (rows.getD g 0)).map fun k=>((there.getD g []).getD c []).getD k 0:=by
 unfold valOf;rw[M_ n g hg];have e:(List.range n).getD c 0=c:=by rw[aC,List.getElem?_range hc];rfl
 rw[e,aC,aN,List.getElem?_range hc];rfl
theorem U9 (l:List Int):(List.range l.length).map (fun k=>l.getD k 0)=l:=by
 apply List.ext_getElem?;intro i;rw[aN];by_cases hi:i<l.length
 ·rw[List.getElem?_range hi,ay hi,Option.map_some,aC,ay hi];rfl
 ·rw[bn (by simp;omega),bn af];rfl
theorem aax (n c:Nat)(hc:c<n):yR rows there c=Da (vt rows there n) (List.range n) c:=by
 unfold yR Da;have e:(List.range n).getD c 0=c:=by rw[aC,List.getElem?_range hc];rfl
 rw[e];unfold vt;rw[List.flatMap_map]
 congr 1
 funext g
 symm
 rw[aC (l:=(List.range n).map _),aN,List.getElem?_range hc];rfl
theorem aay (n:Nat)(h1:1≤n):Even (vt rows there n) (List.range n):=by
 intro c hc G hG;rw[List.length_range]at hc;obtain⟨g,-,rfl⟩:=List.mem_map.1 hG;have e:(List.range n).getD c 0=c:=by rw[aC,List.getElem?_range hc];rfl
 rw[e];have:∀c,c<n→(((List.range n).map fun c=>(List.range (rows.getD g 0)).map fun k=>((there.getD g []).getD c []).getD k 0).getD c []).length=rows.getD g 0:=fun c hc=>by
  rw[aC,aN,List.getElem?_range hc];simp
 rw[this c hc,this 0 af]
theorem Na (n:Nat)(h1:1≤n):∀g,g≤rows.length→ahead' (vt rows there n) g=(rows.take g).sum
 |0,_=>by simp[ahead']
 |g+1,hg=>by
  rw[Eh _ _ (by rw[U8];omega),Na n h1 g af,aF af,List.sum_append,M_ n g af];rw[aC,aN,List.getElem?_range af];simp[ay (show g<rows.length from af)]
theorem nM.ls (h:nM rw rows there next)(hg:iF rw pd)(hc1:1≤rw.columns):Ah (vt rows there rw.columns) (List.range rw.columns) rw pd∧vN (vt rows there rw.columns) (List.range rw.columns) rw:=by
 refine⟨fun i G c l hG hl=>?_,⟨aj,by rw[U8];exact h.cnt,fun i G hG=>?_⟩⟩
 ·obtain⟨g1,g2,g3,g4,g5⟩:=hg.nH i G hG;rcases g5 c l hl with e|⟨x,hx,e⟩
  ·left;have hc:c<rw.columns:=by rw[←g3];exact(aL.1 hl).1
   obtain⟨a,b⟩:=h.nH i G hG;have hgl:rw.gone+i<rows.length:=(aL.1 a).1;rw[adI _ _ _ hgl hc];have e1:rows.getD (rw.gone+i) 0=l.length:=by rw[aC,a,e];rfl
   have e2:(there.getD (rw.gone+i) []).getD c []=l:=by rw[aC (l:=there),b];show G.lists.getD c []=l;rw[aC,hl];rfl
   rw[e1,e2,U9]
  ·exact .inr ⟨x,hx,e⟩
 ·obtain⟨a,-⟩:=h.nH i G hG;have hgl:rw.gone+i<rows.length:=(aL.1 a).1;rw[M_ _ _ hgl];rw[aC,aN,List.getElem?_range hc1];simp[a]
theorem nM.nextRows (h:nM rw rows there next)(hg:iF rw pd)(he:X8 there pd)(hc1:1≤rw.columns)(most:Nat):
 rw.left=rows.sum-next∧next≤rows.sum∧
 ((dQ rw most=(none,rw)∧(min most (rows.sum-next)<1∨gQ rows there<next+min most (rows.sum-next)))∨
  (¬(min most (rows.sum-next)<1∨gQ rows there<next+min most (rows.sum-next))∧
   (dQ rw most).1=some ((List.range rw.columns).map fun i=>((yR rows there i).drop next).take (min most (rows.sum-next)))∧
   nM (dQ rw most).2 rows there (next+min most (rows.sum-next))∧(dQ rw most).2.left=rows.sum-(next+min most (rows.sum-next)))):=by
 have hR:rows.drop rw.gone=rw.groups.map (·.rows):=by
  apply List.ext_getElem?;intro i;rw[List.getElem?_drop,aN];by_cases hi:i<rw.groups.length
  ·rw[(h.nH i _ (ay hi)).1,ay hi];rfl
  ·have:=h.cnt;rw[bn af,bn af];rfl
 have hsum:rows.sum=(rows.take rw.gone).sum+(rw.groups.map (·.rows)).sum:=by
  conv=>lhs;rw[←List.take_append_drop rw.gone rows]
  rw[List.sum_append,hR]
 have hl:=hg.left;have hn:=h.next;have U_:=h.ready hg he;have hleft:rw.left=rows.sum-next:=af;have hcount:iy rw most=min most (rows.sum-next):=by unfold iy;rw[hleft]
 have hrow:rw.row≤fu rw.groups:=hg.ok.row;have hrr:eF rw=fu rw.groups-rw.row:=rfl;refine⟨hleft,af,?_⟩;by_cases hc:iy rw most=0∨eF rw<iy rw most
 ·left;refine⟨by unfold dQ;rw[if_pos hc],by rw[U_,←hcount];omega⟩
 ·right;refine⟨by rw[U_,←hcount];omega,?_⟩;obtain⟨hls,htb⟩:=h.ls hg hc1;obtain⟨-,-,hnx⟩:=R4 (aay rw.columns hc1) hg hls htb most;rcases hnx with⟨e,-⟩|⟨e1,e2,e3,e4⟩
  ·exfalso;unfold dQ at e;rw[if_neg hc]at e;cases e
  ·have hpos:posOf (vt rows there rw.columns) rw=next:=by
    unfold posOf;rw[Na rw.columns hc1 _ (by have:=h.cnt;omega)];exact hn.symm
   have hat:(dQ rw most).2=jw rw (iy rw most):=by unfold dQ;rw[if_neg hc]
   refine⟨?_,?_,by rw[e4,hcount,hleft,Nat.sub_sub]⟩
   ·rw[e1,hpos,hcount,List.length_range]
    congr 1
    apply List.map_congr_left;intro c hcm;rw[aax rw.columns c (List.mem_range.1 hcm)]
   ·rw[hat,←hcount];exact h.takeN hg _ af
end
end
section
open Pl
def Like (p q:bQ):Prop:=q.kind=p.kind∧q.place=p.place∧q.length=p.length∧q.parts=p.parts
theorem Like.pc {p q:bQ}(h:Like p q)(rows:List Nat):iY rows q=iY rows p:=by unfold iY;rw[h.2.1,h.2.2.1,h.2.2.2]
def mo (l l':List bQ):Prop:=l'.length=l.length∧∀(j:Nat)p q,l[j]?=some p→l'[j]?=some q→Like p q∧(q.got.length<q.length→p.got.length<p.length)
theorem mo.refl (l:List bQ):mo l l:=⟨rfl,fun j p q a b=>by rw[a]at b;cases b;exact⟨⟨rfl,rfl,rfl,rfl⟩,id⟩⟩
theorem mo.mem {l l':List bQ}(h:mo l l'){q:bQ}(hq:q∈l'):∃p∈l,Like p q∧(q.got.length<q.length→p.got.length<p.length):=by
 obtain⟨j,hj,rfl⟩:=List.mem_iff_getElem.1 hq;have hj':j<l.length:=by rw[←h.1];exact hj
 exact⟨l[j],aJ hj',h.2 j _ _ (ay hj') (ay hj)⟩
theorem mo.mid {A B:List bQ}{p q:bQ}(h:Like p q)(hg:q.got.length<q.length→p.got.length<p.length):mo (A++p::B) (A++q::B):=by
 refine⟨aj,fun j x y hx hy=>?_⟩;by_cases h1:j<A.length
 ·rw[aS h1]at hx hy;rw[hx]at hy;cases hy;exact⟨⟨rfl,rfl,rfl,rfl⟩,id⟩
 ·rw[aP af]at hx hy;cases hk:j-A.length with
  |zero=>
   rw[hk]at hx hy;cases hx;cases hy;exact⟨h,hg⟩
  |succ k=>
   rw[hk,aB]at hx hy;rw[hx]at hy;cases hy;exact⟨⟨rfl,rfl,rfl,rfl⟩,id⟩
theorem mo.flat {l l':List bQ}(h:mo l l'):(l'.flatMap fun p=>p.parts.map fun x=>(x.group,x.want))=l.flatMap fun p=>p.parts.map fun x=>(x.group,x.want):=by
 have e:l'.map (·.parts)=l.map (·.parts):=by
  apply List.ext_getElem?;intro j;rw[aN,aN];by_cases hj:j<l.length
  ·have hj':j<l'.length:=by rw[h.1];exact hj
   have:=(h.2 j _ _ (ay hj) (ay hj')).1.2.2.2;rw[ay hj,ay hj'];simp only[Option.map_some];rw[this]
  ·rw[bn (l:=l') (by rw[h.1];omega),bn (l:=l) af]
 have e2:∀m:List bQ,(m.flatMap fun p=>p.parts.map fun x=>(x.group,x.want))=(m.map (·.parts)).flatMap fun l=>l.map fun x=>(x.group,x.want):=fun m=>by rw[List.flatMap_map]
 rw[e2,e2,e]
def R5 (p:bQ):Prop:=0<p.id∨0<p.due∨p.got.length=p.length
def opn (p:bQ):Bool:=decide (p.kind=2)&&decide (p.got.length<p.length)
def El (ahead:List Piece)(opened:Nat)(rows:List Nat)(pieces:List bQ):Prop:=
 ∃A B,pieces=A++B∧ahead=B.map (iY rows)∧(∀p∈B,vF p∧1≤p.length)∧(∀p∈A,R5 p)∧opened=(A.filter opn).length
theorem El.mid {ahead:List Piece}{opened:Nat}{rows:List Nat}{A0 B0:List bQ}{p:bQ}(h:El ahead opened rows (A0++p::B0))(hp:0<p.id):
 ∃A2 B,B0=A2++B∧ahead=B.map (iY rows)∧(∀p∈B,vF p∧1≤p.length)∧(∀q∈A0++p::A2,R5 q)∧opened=((A0++p::A2).filter opn).length:=by
 obtain⟨A,B,h1,h2,h3,h4,h5⟩:=h;have hno:p∉B:=fun hm=>by have:=(h3 p hm).1.2.2.2.1;omega
 rcases List.append_eq_append_iff.1 h1 with⟨a,e1,e2⟩|⟨c,e1,e2⟩
 ·cases a with
  |nil=>exact absurd (by rw[show B=p::B0 from e2.symm];simp) hno
  |cons x A2=>
   rw[List.cons_append]at e2;cases e2;exact⟨A2,B,rfl,h2,h3,by rw[←e1];exact h4,by rw[←e1];exact h5⟩
 ·exact absurd (by rw[e2];simp) hno
theorem El.set {ahead:List Piece}{opened:Nat}{rows:List Nat}{A0 B0:List bQ}{p:bQ}(h:El ahead opened rows (A0++p::B0))(hp:0<p.id)(q:bQ)(hb:R5 q):El ahead (opened-(if opn p=true then 1 else 0)+(if opn q=true then 1 else 0)) rows (A0++q::B0):=by
 obtain⟨A2,B,rfl,h2,h3,h4,h5⟩:=h.mid hp;refine⟨A0++q::A2,B,aj,h2,h3,fun x hx=>?_,?_⟩
 ·rcases nK hx with rfl|hx
  ·exact hb
  ·exact h4 x (by
    rcases aI.1 hx with hx|hx
    ·exact aI.2 (.inl hx)
    ·exact aI.2 (.inr (List.mem_cons_of_mem _ hx)))
 ·rw[h5,List.filter_append,List.filter_append,List.filter_cons,List.filter_cons];simp only[aD];by_cases e1:opn p=true<;>by_cases e2:opn q=true<;>simp[e1,e2]<;>omega
theorem aaz :∀(B A:List bQ)(f n:Nat)(m:Sc)(r:cO),r.pieces=A++B→(∀p∈B,vF p∧1≤p.length)→gK m r→m.ahead=B.map (iY r.rows)→m.win=r.win→r.state=0→n=m.opened→B.length≤f→
 gK (fO B.length m) (fZ f A.length n r)∧∃(C D:List bQ)(al:List (Nat×Part)),fZ f A.length n r={r with pieces:=A++(C++D),made:=r.made+C.length}∧mo B (C++D)∧(∀q∈C,0<q.id∧q.due=0∧q.kind=2∧q.got=[]∧1≤q.length)∧(∀q∈D,q∈B)∧fO B.length m={m with asked:=al,bW:=m.bW+C.length,ahead:=D.map (iY r.rows),opened:=m.opened+C.length}:=by
 intro B;induction B with
 |nil=>
  intro A f n m r hr _ hl ha _ _ _ _;have e:fZ f A.length n r=r:=by
   cases f with
   |zero=>rfl
   |succ f=>unfold fZ;rw[if_neg (fun h=>by have:=h.1;rw[hr]at this;simp at this)]
  rw[e];refine⟨hl,[],[],m.asked,?_,mo.refl _,(fun _ h=>by cases h),(fun _ h=>by cases h),?_⟩
  ·show r={r with pieces:=A++([]++[]),made:=r.made+0}
   have:A++([]++[])=r.pieces:=by rw[hr];simp
   rw[this];rfl
  ·show m={m with asked:=m.asked,bW:=m.bW+0,ahead:=[],opened:=m.opened+0}
   have:m.ahead=[]:=by rw[ha];rfl
   rw[←this];rfl
 |cons p B ih=>
  intro A f n m r hr hB hl ha hw hs hn hf;obtain⟨f,rfl⟩:∃g,f=g+1:=⟨f-1,by simp at hf;omega⟩
  obtain⟨⟨q1,q2,q3,q4,q5,q6⟩,hlen⟩:=hB p aj;have hgd:r.pieces.getD A.length default=p:=by rw[hr];exact qV A p B
  rw[aR];have ha':m.ahead=iY r.rows p::B.map (iY r.rows):=ha;by_cases hwin:m.opened<m.win
  ·have e1:fO (B.length+1) m=fO B.length (oQ {m with ahead:=B.map (iY r.rows),opened:=m.opened+1} p.place p.length (.piece (iY r.rows p))):=by
    conv=>lhs;unfold fO
    rw[ha'];simp only;rw[if_pos hwin];rfl
   have e2:fZ (f+1) A.length n r=fZ f (A.length+1) (n+1) (fB r A.length):=by
    conv=>lhs;unfold fZ
    rw[if_pos ⟨by rw[hr];simp,af,hs⟩,hgd,if_neg (by rw[q2];simp;omega),if_pos ⟨q4,q5⟩]
   have hmk:fB r A.length={r with made:=r.made+1,pieces:=(A++[{p with id:=r.made+1,due:=0}])++B}:=by
    unfold fB
    congr 1
    rw[hr,oo];simp
   have hpart:eX r.rows {p with id:=r.made+1,due:=0}=⟨p.place,p.length,[],0,.piece (iY r.rows p)⟩:=by
    unfold eX qp;simp only;rw[if_neg af,if_neg af,q2,q3];rfl
   have hl':gK (oQ {m with ahead:=B.map (iY r.rows),opened:=m.opened+1} p.place p.length (.piece (iY r.rows p))) (fB r A.length):=by
    rw[hmk];have hpp:∀(g:bQ→Option (Nat×Part)),(g p=none)→(r.pieces.filterMap g).Perm ((A++B).filterMap g):=fun g hg=>by
     have:=fC g A p B;rw[←hr,hg]at this;exact this
    have ajc:∀(g:bQ→Option (Nat×Nat×Part)),(g p=none)→(r.pieces.filterMap g).Perm ((A++B).filterMap g):=fun g hg=>by
     have:=fC g A p B;rw[←hr,hg]at this;exact this
    have ajd:(A++[{p with id:=r.made+1,due:=0}])++B=A++{p with id:=r.made+1,due:=0}::B:=aj;rw[ajd];refine⟨by show m.bW+1=r.made+1;rw[hl.made],?_,?_,fun q hq=>?_⟩
    ·show(m.asked++[(m.bW+1,(⟨p.place,p.length,[],0,.piece (iY r.rows p)⟩:Part))]).Perm _;refine((hl.asked.trans (hpp _ (by unfold fE;rw[if_neg af]))).append_right _).trans ?_;have:=fC (fE r.rows) A {p with id:=r.made+1,due:=0} B;rw[show fE r.rows {p with id:=r.made+1,due:=0}=some (r.made+1,⟨p.place,p.length,[],0,.piece (iY r.rows p)⟩) by unfold fE;rw[if_pos aj,hpart]]at this;rw[hl.made];exact(List.perm_append_comm).trans this.symm
    ·obtain⟨W,w1,w2,w3,w4⟩:=hl.waits;refine⟨W,w1,w2,(w3.trans (ajc _ (by unfold eP;rw[if_neg af]))).trans ?_,w4⟩;have:=fC (eP r.rows) A {p with id:=r.made+1,due:=0} B;rw[show eP r.rows {p with id:=r.made+1,due:=0}=none by unfold eP;rw[if_neg aj]]at this;exact this.symm
    ·rcases nK hq with rfl|hq
     ·exact .inr rfl
     ·exact hl.one q (gK.mem hr hq)
   have:=ih (A++[{p with id:=r.made+1,due:=0}]) f (n+1) (oQ {m with ahead:=B.map (iY r.rows),opened:=m.opened+1} p.place p.length (.piece (iY r.rows p))) (fB r A.length) (by rw[hmk]) (fun x hx=>hB x (by simp[hx])) hl' (by rw[hmk];rfl) (by rw[hmk];exact hw) (by rw[hmk];exact hs) (by show n+1=m.opened+1;omega) (by simp at hf;omega);rw[aD,List.length_singleton]at this;rw[e1,e2];obtain⟨g1,C,D,al,g2,g3,g4,g5,g6⟩:=this;refine⟨g1,{p with id:=r.made+1,due:=0}::C,D,al,?_,?_,?_,fun q hq=>List.mem_cons_of_mem _ (g5 q hq),?_⟩
   ·rw[g2,hmk];simp only[aR,aW,List.cons_append];rw[Nat.add_assoc,Nat.add_comm 1 C.length];rfl
   ·refine⟨by have:=g3.1;simp only[aR,List.cons_append];omega,fun j x y hx hy=>?_⟩;cases j with
    |zero=>
     simp only[aA,List.cons_append]at hx hy;cases hx;cases hy;exact⟨⟨rfl,rfl,rfl,rfl⟩,id⟩
    |succ j=>
     simp only[aB,List.cons_append]at hx hy;exact g3.2 j x y hx hy
   ·intro q hq;rcases List.mem_cons.1 hq with rfl|hq
    ·exact⟨Nat.succ_pos _,rfl,q1,q2,hlen⟩
    ·exact g4 q hq
   ·rw[g6,hmk];show({m with asked:=al,bW:=m.bW+1+C.length,ahead:=D.map (iY r.rows),opened:=m.opened+1+C.length}:Sc)={m with asked:=al,bW:=m.bW+(C.length+1),ahead:=D.map (iY r.rows),opened:=m.opened+(C.length+1)}
    rw[Nat.add_assoc,Nat.add_comm 1 C.length,Nat.add_assoc m.opened,Nat.add_comm 1 C.length]
  ·have e1:fO (B.length+1) m=m:=by
    unfold fO;rw[ha'];simp only;rw[if_neg hwin]
   have e2:fZ (f+1) A.length n r=r:=by
    unfold fZ;rw[if_neg (fun h=>by have:=h.2.1;omega)]
   rw[e1,e2];refine⟨hl,[],p::B,m.asked,?_,mo.refl _,(fun _ h=>by cases h),(fun q h=>h),?_⟩
   ·show r={r with pieces:=A++p::B,made:=r.made+0}
    rw[←hr];rfl
   ·show m={m with asked:=m.asked,bW:=m.bW+0,ahead:=(p::B).map (iY r.rows),opened:=m.opened+0}
    rw[←ha];rfl
theorem Gv {f i n:Nat}{r:cO}(h:r.win≤n):fZ f i n r=r:=by
 cases f with
 |zero=>rfl
 |succ f=>unfold fZ;rw[if_neg (fun e=>by have:=e.2.1;omega)]
theorem JK (r:cO)(hs:r.state=0):∀(A2 A1 B:List bQ)(f n:Nat),r.pieces=A1++A2++B→(∀p∈A2,R5 p∧(p.got.length≤p.length))→fZ (A2.length+f) A1.length n r=fZ f (A1.length+A2.length) (n+(A2.filter fun p=>decide (p.got.length<p.length)).length) r
 |[],A1,B,f,n,_,_=>aj
 |p::A2,A1,B,f,n,hr,hb=>by
  have ih:=JK r hs A2 (A1++[p]) B f;obtain⟨hbp,hle⟩:=hb p aj;have hgd:r.pieces.getD A1.length default=p:=by rw[hr,aW,List.cons_append];exact qV A1 p (A2++B)
  have hi:A1.length<r.pieces.length:=by rw[hr];simp
  by_cases hn:n<r.win
  ·rw[show(p::A2).length+f=(A2.length+f)+1 by simp;omega]
   conv=>lhs;unfold fZ
   rw[if_pos ⟨hi,hn,hs⟩,hgd];by_cases hg:p.got.length=p.length
   ·rw[if_pos hg];have:=ih n (by rw[hr];simp) (fun q hq=>hb q (by simp[hq]));rw[aD,List.length_singleton]at this;rw[this,List.filter_cons,if_neg (by simp;omega),aR]
    congr 1
    omega
   ·rw[if_neg hg,if_neg (fun e=>by rcases hbp with h|h|h<;>omega)];have:=ih (n+1) (by rw[hr];simp) (fun q hq=>hb q (by simp[hq]));rw[aD,List.length_singleton]at this;rw[this,List.filter_cons,if_pos (by simp;omega),aR,aR]
    congr 1
    ·omega
    ·omega
  ·rw[Gv af,Gv af]
theorem Nb {m:Sc}{r:cO}(hl:gK m r)(hs:r.state=0)(hw:m.win=r.win)(hk:∀p∈r.pieces,p.kind=2∧p.got.length≤p.length)(sp:El m.ahead m.opened r.rows r.pieces):
 gK (fV m) (iQ r)∧El (fV m).ahead (fV m).opened r.rows (iQ r).pieces∧∃(ps:List bQ)(k:Nat)(al:List (Nat×Part))(id op:Nat)(ah:List Piece),iQ r={r with pieces:=ps,made:=r.made+k}∧fV m={m with asked:=al,bW:=id,ahead:=ah,opened:=op}∧k≤r.pieces.length∧mo r.pieces ps∧(∀q∈ps,q∈r.pieces∨(q.got.length<q.length)):=by
 obtain⟨A,B,h1,h2,h3,h4,h5⟩:=sp;have hop:m.opened=(A.filter fun p=>decide (p.got.length<p.length)).length:=by
  rw[h5]
  congr 1
  refine List.filter_congr fun p hp=>?_
  unfold opn;rw[aH (hk p (by rw[h1];simp[hp])).1,Bool.true_and]
 have e1:iQ r=fZ B.length A.length m.opened r:=by
  unfold iQ;have:=JK r hs A [] B B.length 0 (by rw[h1];simp) (fun p hp=>⟨h4 p hp,(hk p (by rw[h1];simp[hp])).2⟩);rw[show r.pieces.length=A.length+B.length by rw[h1];simp];rw[List.length_nil,Nat.zero_add,Nat.zero_add]at this;rw[this,hop]
 have e2:fV m=fO B.length m:=by unfold fV;rw[h2];simp
 obtain⟨g1,C,D,al,g2,g3,g4,g5,g6⟩:=aaz B A B.length m.opened m r h1 h3 hl h2 hw hs rfl (aK _);rw[e1,e2];refine⟨g1,?_,A++(C++D),C.length,al,m.bW+C.length,m.opened+C.length,D.map (iY r.rows),g2,g6,?_,?_,?_⟩
 ·rw[g2,g6];refine⟨A++C,D,aj,rfl,fun p hp=>h3 p (g5 p hp),fun p hp=>?_,?_⟩
  ·rcases aI.1 hp with hp|hp
   ·exact h4 p hp
   ·exact .inl (g4 p hp).1
  ·show m.opened+C.length=_;rw[List.filter_append,aD,←h5]
   congr 1
   rw[List.filter_eq_self.2];intro q hq;obtain⟨a,b,c,d,e⟩:=g4 q hq;unfold opn;rw[aH c,d,aH (by simp;omega)];rfl
 ·have:=g3.1;rw[h1];simp at this⊢;omega
 ·rw[h1];refine⟨by have:=g3.1;simp only[aD]at this⊢;omega,fun j x y hx hy=>?_⟩;by_cases hj:j<A.length
  ·rw[aS hj]at hx hy;rw[hx]at hy;cases hy;exact⟨⟨rfl,rfl,rfl,rfl⟩,id⟩
  ·rw[aP af]at hx hy;exact g3.2 _ x y hx hy
 ·intro q hq;rcases aI.1 hq with hq|hq
  ·left;rw[h1];simp[hq]
  ·rcases aI.1 hq with hq|hq
   ·right;obtain⟨a,b,c,d,e⟩:=g4 q hq;rw[d];simp;omega
   ·left;rw[h1];simp[g5 q hq]
end
section
open Pl
structure JL (m:Sc)(r:cO):Prop where
 kinds:∀p∈r.pieces,p.kind=2
 bD:m.rows.columns=r.want.length
 KM:1≤r.want.length
 rows:nM m.rows r.rows r.there r.next
 nodup:(r.pieces.flatMap fun p=>p.parts.map fun x=>(x.group,x.want)).Nodup
 empty:∀p∈r.pieces,p.got.length<p.length→∀x∈p.parts,(r.there.getD x.group []).getD x.want []=[]
 few:r.pieces.length≤24
 pF:∀p∈r.pieces,M6 (iY r.rows p)
 rws:∀n∈r.rows,1≤n∧n≤20
 Va:r.rows.length≤6
structure FsS (m:Sc)(r:cO)(p:bQ):Prop where
 pieces:r.pieces=[p]
 rows:r.rows=[]
 there:r.there=[]
 next:r.next=0
 Gw:m.rows={}
 kind:(p.kind=0∧p.length=6)∨(p.kind=1∧p.place=r.size-6-p.length∧p.length+10≤r.size)
 ends:p.place+p.length≤4000
 parts:p.parts=[]
structure yZ (m:Sc)(r:cO):Prop where
 AU:m.state=0
 sH:r.state=0
 size:m.size=r.size
 want:m.want=dU r.want
 win:m.win=r.win
 Ch:1≤r.win
 tries:m.tries=r.tries
 dh:m.dh=r.dh
 gap:m.gap=r.gap
 line:gK m r
 got:∀p∈r.pieces,p.got.length≤p.length∧(0<p.id∨0<p.due→p.got.length<p.length)
 sp:El m.ahead m.opened r.rows r.pieces
 phase:(∃p,FsS m r p)∨JL m r
def gB (m:Sc)(r:cO):Prop:=(∃why,why≠0∧m=ended why∧r.state=why)∨yZ m r
theorem gB.state {m:Sc}{r:cO}(h:gB m r):m.state=r.state:=by
 rcases h with⟨why,-,rfl,h⟩|h
 ·exact h.symm
 ·rw[h.AU,h.sH]
theorem JL.like {m m':Sc}{r r':cO}(h:JL m r)(hl:mo r.pieces r'.pieces)(e1:r'.rows=r.rows)(e2:r'.there=r.there)(e3:r'.next=r.next)(e4:r'.want=r.want)(e5:m'.rows=m.rows):JL m' r':=by
 refine⟨fun q hq=>?_,by rw[e5,e4];exact h.bD,by rw[e4];exact h.KM,by rw[e1,e2,e3,e5];exact h.rows,by rw[hl.flat];exact h.nodup,fun q hq hg x hx=>?_,by rw[hl.1];exact h.few,fun q hq=>?_,by rw[e1];exact h.rws,by rw[e1];exact h.Va⟩
 ·obtain⟨p,hp,a,-⟩:=hl.mem hq;rw[a.1];exact h.kinds p hp
 ·obtain⟨p,hp,a,b⟩:=hl.mem hq;rw[e2];exact h.empty p hp (b hg) x (by rw[←a.2.2.2];exact hx)
 ·obtain⟨p,hp,a,-⟩:=hl.mem hq;rw[e1,a.pc];exact h.pF p hp
theorem vO {rows:List Nat}{p:bQ}(h:p.kind=2):qp rows p=.piece (iY rows p):=by unfold qp;rw[if_neg af,if_neg af]
theorem yZ.pending {m:Sc}{r:cO}(h:yZ m r)(hk:∀p∈r.pieces,p.kind=2):∀x∈pend (partsOf m) m.ahead,∃p∈r.pieces,p.got.length<p.length∧∃y∈p.parts,lq r.rows y=x:=by
 have key:∀p∈r.pieces,∀x∈mZ (eX r.rows p).gW,∃y∈p.parts,lq r.rows y=x:=fun p hp x hx=>by
  have:x∈mZ (qp r.rows p):=hx;rw[vO (hk p hp)]at this;exact List.mem_map.1 this
 intro x hx;rcases aI.1 hx with hx|hx
 ·obtain⟨pt,hpt,hxp⟩:=List.mem_flatMap.1 hx;rcases aI.1 hpt with hpt|hpt
  ·obtain⟨q,hq,rfl⟩:=List.mem_map.1 hpt;obtain⟨p,hp,e⟩:=List.mem_filterMap.1 (h.line.asked.mem_iff.1 hq);unfold fE at e;split at e
   ·rename_i h0;cases e;exact⟨p,hp,(h.got p hp).2 (.inl h0),key p hp x hxp⟩
   ·cases e
  ·obtain⟨q,hq,rfl⟩:=List.mem_map.1 hpt;obtain⟨W,w1,w2,w3,w4⟩:=h.line.waits;rw[w2]at hq;obtain⟨u,hu,rfl⟩:=List.mem_map.1 hq;obtain⟨p,hp,e⟩:=List.mem_filterMap.1 (w3.mem_iff.1 hu);unfold eP at e;split at e
   ·rename_i h0;cases e;exact⟨p,hp,(h.got p hp).2 (.inr h0),key p hp x hxp⟩
   ·cases e
 ·obtain⟨pc,hpc,hxp⟩:=List.mem_flatMap.1 hx;obtain⟨A,B,h1,h2,h3,h4,h5⟩:=h.sp;rw[h2]at hpc;obtain⟨p,hp,rfl⟩:=List.mem_map.1 hpc;obtain⟨hf,hl⟩:=h3 p hp;exact⟨p,by rw[h1];simp[hp],by rw[hf.2.1];simp;omega,List.mem_map.1 hxp⟩
theorem yZ.emp {m:Sc}{r:cO}(h:yZ m r)(hp:JL m r):X8 r.there (pend (partsOf m) m.ahead):=fun x hx=>by
 obtain⟨p,hp',hg,y,hy,rfl⟩:=h.pending hp.kinds x hx;exact hp.empty p hp' hg y hy
theorem Good.going {m:Sc}{N:Nat}(h:Good m N)(hs:m.state=0):Going m N:=by
 rcases h with⟨why,h1,-,rfl⟩|h
 ·exact absurd hs h1
 ·exact h
theorem Gx (why:Nat)(id:Int):gM (ended why).asked id=none:=rfl
theorem y5 {r:cO}(h:r.state≠0)(id:Int):iO r id=none:=by unfold iO;rw[if_neg (fun e=>h e.1)]
theorem sI {r:cO}(h:r.state≠0):iQ r=r:=by
 unfold iQ;cases r.pieces.length with
 |zero=>rfl
 |succ k=>unfold fZ;rw[if_neg (fun e=>h e.2.2)]
theorem gB.fail {m:Sc}{r:cO}(h:gB m r)(hi:fQ m)(id:Int):(Pl.fail m id).2=(iV r id).2∧gB (Pl.fail m id).1 (iV r id).1:=by
 rcases h with⟨why,h1,rfl,h2⟩|h
 ·unfold Pl.fail iV;rw[Gx,y5 af];exact⟨rfl,.inl ⟨why,h1,rfl,h2⟩⟩
 ·rcases h.line.find hi h.sH id with⟨a,b⟩|⟨i,A,p,B,a,b,hr,hid,h0,hd,hpt,hpe⟩
  ·unfold Pl.fail iV;rw[a,b];exact⟨rfl,.inr h⟩
  ·unfold Pl.fail iV;rw[a,b];show(0:Int)=0∧gB (kT (dF m i) (Pl.partAt m i)) (rA r A.length);refine⟨rfl,?_⟩;have hpc:jE r A.length=p:=by unfold jE;rw[hr];exact qV A p B
   have hpm:p∈r.pieces:=by rw[hr];simp
   have hgl:=(h.got p hpm).2 (.inl h0);unfold kT rA;rw[hpt,hpc];have e1:(eX r.rows p).failures+1=(dF m i).tries↔p.failed+1=r.tries:=by show p.failed+1=m.tries↔_;rw[h.tries]
   by_cases hf:p.failed+1=r.tries
   ·rw[if_pos (e1.2 hf),if_pos hf];exact .inl ⟨4,by decide,rfl,rfl⟩
   ·rw[if_neg (fun e=>hf (e1.1 e)),if_neg hf];right;rw[hr,oo];obtain⟨p',hp'⟩:∃p':bQ,p'={p with id:=0,failed:=p.failed+1,turn:=r.fails+1,due:=r.now+2^p.failed}:=⟨_,rfl⟩
    rw[←hp'];have hlk:Like p p':=by rw[hp'];exact⟨rfl,rfl,rfl,rfl⟩
    have wU:p'.got=p.got:=by rw[hp']
    have qM:=h.line.fails hr hd hpe p' (2^p.failed) (Nat.pow_pos af) (by rw[hp']) (by rw[hp']) (by rw[hp']);have hpart:eX r.rows p'={eX r.rows p with failures:=(eX r.rows p).failures+1}:=by rw[hp'];rfl
    rw[hpart]at qM;have Ci:opn p'=opn p:=by unfold opn;rw[hlk.1,hlk.2.2.1,wU]
    have hsp:=h.sp;rw[hr]at hsp;have adJ:=hsp.set h0 p' (.inr (.inl (by rw[hp'];show 0<r.now+2^p.failed;have:=Nat.pow_pos (a:=2) (n:=p.failed) af;omega)));have Nc:m.opened-(if opn p=true then 1 else 0)+(if opn p'=true then 1 else 0)=m.opened:=by
     rw[Ci];by_cases e:opn p=true
     ·obtain⟨A2,B2,-,-,-,-,h5⟩:=hsp.mid h0;have:1≤m.opened:=by rw[h5,List.filter_append,List.filter_cons,if_pos e];simp;omega
      rw[if_pos e];omega
     ·rw[if_neg e];rfl
    rw[Nc]at adJ;refine⟨h.AU,h.sH,h.size,h.want,h.win,h.Ch,h.tries,h.dh,h.gap,qM,fun q hq=>?_,adJ,?_⟩
    ·rcases nK hq with rfl|hq
     ·rw[wU,hlk.2.2.1];exact⟨Nat.le_of_lt hgl,fun _=>hgl⟩
     ·exact h.got q (gK.mem hr hq)
    ·rcases h.phase with⟨p0,hf0⟩|hpg
     ·left;have hpp:=hf0.pieces;rw[hr]at hpp;cases A with
      |nil=>
       rw[List.nil_append]at hpp;obtain⟨rfl,rfl⟩:=List.cons.inj hpp;refine⟨p',rfl,hf0.rows,hf0.there,hf0.next,hf0.Gw,?_,?_,by rw[hlk.2.2.2];exact hf0.parts⟩
       ·rw[hlk.1,hlk.2.1,hlk.2.2.1];exact hf0.kind
       ·rw[hlk.2.1,hlk.2.2.1];exact hf0.ends
      |cons x A=>simp at hpp
     ·exact .inr (hpg.like (by rw[hr];exact mo.mid hlk (by rw[wU,hlk.2.2.1];exact fun e=>e)) rfl rfl rfl rfl rfl)
theorem gB.tick {m:Sc}{r:cO}{N:Nat}(h:gB m r)(hg:Good m N):gB (Pl.tick m) (lG r):=by
 rcases h with⟨why,h1,rfl,h2⟩|h
 ·have:lG r=r:=by unfold lG;rw[if_neg af]
  rw[this];exact .inl ⟨why,h1,rfl,h2⟩
 ·right;obtain⟨W,w1,w2,w3,w4⟩:=h.line.waits;have hwl:m.waiting.length≤r.pieces.length:=by
   rw[w2,aQ,w3.length_eq];exact List.length_filterMap_le _ _
  obtain⟨hl,ps,k,e,-,hpl,hps⟩:=h.line.tick h.sH hwl;rw[e]at hl⊢;obtain⟨al,id,e1,-,-,-⟩:=JH m.waiting m [];have em:Pl.tick m={m with asked:=al,bW:=id,waiting:=(m.waiting.foldl eO (m,[])).2}:=by unfold Pl.tick;simp only;rw[e1]
  have hlk:mo r.pieces ps:=⟨hpl,fun j p q hp hq=>by
   obtain⟨p0,h0,h1⟩:=hps j q hq;rw[h0]at hp;cases hp;rcases h1 with rfl|⟨-,n,rfl⟩
   ·exact⟨⟨rfl,rfl,rfl,rfl⟩,fun e=>e⟩
   ·exact⟨⟨rfl,rfl,rfl,rfl⟩,fun e=>e⟩⟩
  have hmem:∀q∈ps,∃p∈r.pieces,q=p∨(0<p.due∧∃n,q={p with id:=n+1,due:=0}):=fun q hq=>by
   obtain⟨j,hj,rfl⟩:=List.mem_iff_getElem.1 hq;obtain⟨p0,h0,h1⟩:=hps j _ (ay hj);exact⟨p0,List.mem_of_getElem? h0,h1⟩
  refine⟨by rw[em];exact h.AU,h.sH,by rw[em];exact h.size,by rw[em];exact h.want,by rw[em];exact h.win,h.Ch,by rw[em];exact h.tries,by rw[em];exact h.dh,by rw[em];exact h.gap,hl,fun q hq=>?_,?_,?_⟩
  ·obtain⟨p,hp,rfl|⟨hd,n,rfl⟩⟩:=hmem q hq
   ·exact h.got _ hp
   ·have:=h.got p hp;exact⟨this.1,fun _=>this.2 (.inr hd)⟩
  ·rw[em];obtain⟨A,B,h1,h2,h3,h4,h5⟩:=h.sp;have hpA:ps.take A.length++ps.drop A.length=ps:=List.take_append_drop _ _;have hB:ps.drop A.length=B:=by
    apply List.ext_getElem?;intro j;rw[List.getElem?_drop];have hr:r.pieces[A.length+j]?=B[j]?:=by rw[h1,aP af];congr 1;omega
    cases hq:ps[A.length+j]? with
    |none=>
     have:ps.length≤A.length+j:=List.getElem?_eq_none_iff.1 hq;rw[←hr];exact(bn af).symm
    |some q=>
     obtain⟨p,h0,hc⟩:=hps _ q hq;rw[←hr,h0];rcases hc with rfl|⟨hd,-⟩
     ·rfl
     ·rw[hr]at h0;have:=(h3 p (List.mem_of_getElem? h0)).1.2.2.2.2.1;omega
   have hA:∀(j:Nat)(q:bQ),(ps.take A.length)[j]?=some q→∃p:bQ,A[j]?=some p∧(q=p∨(0<p.due∧∃n,q={p with id:=n+1,due:=0})):=fun j q hq=>by
    rw[List.getElem?_take]at hq;split at hq
    ·obtain⟨p,h0,hc⟩:=hps j q hq;rw[h1,aS (by assumption)]at h0;exact⟨p,h0,hc⟩
    ·cases hq
   refine⟨ps.take A.length,B,by rw[←hB];exact hpA.symm,h2,h3,fun q hq=>?_,?_⟩
   ·obtain⟨j,hj,rfl⟩:=List.mem_iff_getElem.1 hq;obtain⟨p,h0,rfl|⟨hd,n,e⟩⟩:=hA j _ (ay hj)
    ·exact h4 _ (List.mem_of_getElem? h0)
    ·rw[e];exact .inl (Nat.succ_pos _)
   ·show m.opened=_;rw[h5];have hlen:(ps.take A.length).length=A.length:=by rw[aU,hpl,h1];simp
    have e2:(ps.take A.length).map opn=A.map opn:=by
     apply List.ext_getElem?;intro j;rw[aN,aN];cases hq:(ps.take A.length)[j]? with
     |none=>rw[bn (by have:=List.getElem?_eq_none_iff.1 hq;omega)]
     |some q=>
      obtain⟨p,h0,rfl|⟨hd,n,rfl⟩⟩:=hA j q hq
      ·rw[h0]
      ·rw[h0];rfl
    have e3:∀l:List bQ,(l.filter opn).length=((l.map opn).filter fun b=>b).length:=fun l=>by
     induction l with
     |nil=>rfl
     |cons x l ih=>rw[List.map_cons,List.filter_cons,List.filter_cons];by_cases hx:opn x=true<;>simp[hx,ih]
    rw[e3,e3,e2]
  ·rcases h.phase with⟨p0,hf0⟩|hpg
   ·left;have h1:ps.length=1:=by rw[hpl,hf0.pieces];rfl
    obtain⟨q,rfl⟩:∃q,ps=[q]:=by
     cases ps with
     |nil=>simp at h1
     |cons q t=>cases t with
      |nil=>exact⟨q,rfl⟩
      |cons _ _=>simp at h1
    have hq:=(hlk.2 0 p0 q (by rw[hf0.pieces];rfl) rfl).1;refine⟨q,rfl,hf0.rows,hf0.there,hf0.next,by rw[em];exact hf0.Gw,?_,?_,by rw[hq.2.2.2];exact hf0.parts⟩
    ·rw[hq.1,hq.2.1,hq.2.2.1];exact hf0.kind
    ·rw[hq.2.1,hq.2.2.1];exact hf0.ends
   ·exact .inr (hpg.like hlk rfl rfl rfl rfl (by rw[em]))
theorem gB.next {m:Sc}{r:cO}{N:Nat}(h:gB m r)(hg:Good m N):(Pl.next m).2=(iE r).2∧gB (Pl.next m).1 (iE r).1:=by
 rcases h with⟨why,h1,rfl,h2⟩|h
 ·have e1:iE r=(r,none):=by unfold iE;rw[if_neg af]
  have e2:Pl.next (ended why)=(ended why,none):=by
   unfold Pl.next;have:dQ (ended why).rows (ended why).dh=(none,(ended why).rows):=by unfold dQ;rw[if_pos (.inl rfl)]
   rw[this]
  rw[e1,e2];exact⟨rfl,.inl ⟨why,h1,rfl,h2⟩⟩
 ·have hgo:=hg.going h.AU;rcases h.phase with⟨p0,hf0⟩|hpg
  ·have e1:iE r=(r,none):=by
    unfold iE;rw[if_pos h.sH,if_pos (.inl (by unfold nD;rw[hf0.rows];show min r.dh (0-r.next)<1;omega))]
   have e2:Pl.next m=(m,none):=by
    unfold Pl.next;have:dQ m.rows m.dh=(none,m.rows):=by unfold dQ;rw[if_pos (.inl (by unfold iy;rw[hf0.Gw];exact Nat.min_zero _))]
    rw[this]
   rw[e1,e2];exact⟨rfl,.inr h⟩
  ·obtain⟨hleft,hle,hc⟩:=hpg.rows.nextRows hgo.core.rows (h.emp hpg) (by rw[hpg.bD];exact hpg.KM) m.dh;have hN:nD r=min m.dh (r.rows.sum-r.next):=by unfold nD;rw[h.dh]
   rcases hc with⟨e,hcond⟩|⟨hcond,e1,hrow,hl2⟩
   ·have e1:iE r=(r,none):=by unfold iE;rw[if_pos h.sH,hN,if_pos hcond]
    have e2:Pl.next m=(m,none):=by unfold Pl.next;rw[e]
    rw[e1,e2];exact⟨rfl,.inr h⟩
   ·have er:iE r=({r with next:=r.next+min m.dh (r.rows.sum-r.next),state:=if r.next+min m.dh (r.rows.sum-r.next)=r.rows.sum then 1 else 0},some ((List.range r.want.length).map fun i=>((yR r.rows r.there i).drop r.next).take (min m.dh (r.rows.sum-r.next)))):=by
     unfold iE;rw[if_pos h.sH,hN,if_neg hcond]
    rw[er];obtain⟨rw',he⟩:∃rw',rw'=(dQ m.rows m.dh).2:=⟨_,rfl⟩
    have em:Pl.next m=(if rw'.left=0 then ended 1 else{m with rows:=rw'},some ((List.range r.want.length).map fun i=>((yR r.rows r.there i).drop r.next).take (min m.dh (r.rows.sum-r.next)))):=by
     have e0:dQ m.rows m.dh=(some ((List.range m.rows.columns).map fun i=>((yR r.rows r.there i).drop r.next).take (min m.dh (r.rows.sum-r.next))),rw'):=by rw[he,←e1]
     unfold Pl.next;rw[e0];simp only;rw[hpg.bD];split<;>rfl
    rw[em];refine⟨rfl,?_⟩;simp only;have hiff:rw'.left=0↔r.next+min m.dh (r.rows.sum-r.next)=r.rows.sum:=by rw[he,hl2];omega
    by_cases h0:rw'.left=0
    ·rw[if_pos h0,if_pos (hiff.1 h0)];exact .inl ⟨1,by decide,rfl,rfl⟩
    ·rw[if_neg h0,if_neg (fun e=>h0 (hiff.2 e))];right;have aje:rw'.columns=m.rows.columns:=by rw[he];exact(hgo.core.rows.next m.dh).2
     exact⟨h.AU,rfl,h.size,h.want,h.win,h.Ch,h.tries,h.dh,h.gap,⟨h.line.made,h.line.asked,h.line.waits,h.line.one⟩,h.got,h.sp,.inr ⟨hpg.kinds,by show rw'.columns=_;rw[aje];exact hpg.bD,hpg.KM,by show nM rw' _ _ _;rw[he];exact hrow,hpg.nodup,hpg.empty,hpg.few,hpg.pF,hpg.rws,hpg.Va⟩⟩
theorem gB.cancel {m:Sc}{r:cO}(h:gB m r):gB (Pl.cancel m) (mG r):=by
 have hs:=h.state;unfold Pl.cancel mG;by_cases h0:m.state=0
 ·rw[if_pos h0,if_pos af];exact .inl ⟨5,by decide,rfl,rfl⟩
 ·rw[if_neg h0,if_neg af];exact h
end
section
open Pl
theorem Nf (p:bQ):∀(parts:List eU)(rw:Rw)(r:cO)(pd:List cK),iF rw (parts.map (lq r.rows)++pd)→nM rw r.rows r.there r.next→
 (mM (iY r.rows p) p.got (parts.map (lq r.rows)) rw=none∧∃th,iB p parts r={r with there:=th,state:=2})∨
 ∃rw' th,mM (iY r.rows p) p.got (parts.map (lq r.rows)) rw=some rw'∧iB p parts r={r with there:=th}∧nM rw' r.rows th r.next∧rw'.columns=rw.columns∧∀g c,(g,c)∉parts.map (fun x=>(x.group,x.want))→(th.getD g []).getD c []=(r.there.getD g []).getD c []
 |[],rw,r,pd,_,hb=>.inr ⟨rw,r.there,rfl,rfl,hb,rfl,fun _ _ _=>rfl⟩
 |x::t,rw,r,pd,hg,hb=>by
  rw[List.map_cons];unfold mM iB;have hrow:(lq r.rows x).rows=r.rows.getD x.group 0:=rfl;have hpr:=hg.ES (lq r.rows x) aj;have h20:r.rows.getD x.group 0≤20:=by
   cases hG:rw.groups[(lq r.rows x).group-rw.gone]? with
   |none=>rw[hG]at hpr;cases hpr
   |some G=>
    rw[hG]at hpr;have:=(hg.nH _ G hG).2.1;have e:G.rows=(lq r.rows x).rows:=by simpa using hpr
    rw[←hrow,←e];exact this
  have hread:uz (iY r.rows p) (lq r.rows x) p.got=if sumOf (gZ p x)=x.page.sum then Pl.decode (gZ p x) (r.rows.getD x.group 0)else none:=by
   unfold uz;rw[yP _ _ af];rfl
  rw[hread];cases hd:Pl.decode (gZ p x) (r.rows.getD x.group 0)with
  |none=>
   left;refine⟨?_,r.there,rfl⟩;by_cases hs:sumOf (gZ p x)=x.page.sum
   ·rw[if_pos hs]
   ·rw[if_neg hs]
  |some l=>
   simp only;by_cases hs:sumOf (gZ p x)=x.page.sum
   ·rw[if_pos hs,if_pos hs];simp only;have hl:l.length=(lq r.rows x).rows:=by
     rw[hrow];rw[yP _ _ af]at hd;exact wJ hd
    have hb1:=hb.put (pd:=t.map (lq r.rows)++pd) hg hl;have hg1:=(iF.put (pend:=t.map (lq r.rows)++pd) hg l hl).1;rcases Nf p t (kz rw x.group x.want l) {r with there:=r.there.modify x.group fun ls=>ls.set x.want l} pd hg1 hb1 with⟨a,th,b⟩|⟨rw',th,a,b,c,d,e⟩
    ·exact .inl ⟨a,th,b⟩
    ·refine .inr ⟨rw',th,a,b,c,d,fun g cc hgc=>?_⟩;rw[List.map_cons,List.mem_cons,not_or]at hgc;have h1:=e g cc hgc.2;have h1:(th.getD g []).getD cc []=((r.there.modify x.group fun ls=>ls.set x.want l).getD g []).getD cc []:=h1;rw[h1,aC (l:=r.there.modify _ _),List.getElem?_modify];by_cases eg:x.group=g
     ·have ec:cc≠x.want:=fun e=>hgc.1 (by rw[eg,e])
      rw[aC (l:=r.there)];cases r.there[g]? with
      |none=>simp
      |some ls=>
       simp only[eg,if_true,Option.map_eq_map,Option.map_some,Option.getD_some];rw[aC,List.getElem?_set_ne (Ne.symm ec),aC]
     ·rw[aC (l:=r.there)];cases r.there[g]?<;>simp[eg]
   ·rw[if_neg hs,if_neg hs];exact .inl ⟨rfl,r.there,rfl⟩
theorem Ng {names want:List (List UInt8)}:∀{f i:Nat}{acc out:List Nat},oU names want f i acc=some out→out.length=acc.length+f∧1≤out.length
 |0,i,acc,out,h=>by
  unfold oU at h;split at h
  ·cases h;exact⟨rfl,af⟩
  ·cases h
 |f+1,i,acc,out,h=>by
  unfold oU at h;cases e:rW names want i with
  |none=>rw[e]at h;cases h
  |some k=>
   rw[e]at h;have:=Ng h;simp at this;exact⟨af,this.2⟩
theorem Nh (r:cO)(q:bQ)(hs:r.state=0)(hw:1≤r.win)(hr:r.pieces=[q])(hg:q.got=[])(hl:1≤q.length)(hi:q.id=0)(hd:q.due=0):iQ r={r with made:=r.made+1,pieces:=[{q with id:=r.made+1,due:=0}]}:=by
 unfold iQ;rw[hr];show fZ 1 0 0 r=_;unfold fZ;have hgd:r.pieces.getD 0 default=q:=by rw[hr];rfl
 rw[if_pos ⟨by rw[hr];simp,af,hs⟩,hgd,if_neg (by rw[hg];simp;omega),if_pos ⟨hi,hd⟩];show fB r 0=_;unfold fB;rw[hr];rfl
theorem Qd {m:Sc}{r:cO}(q:bQ)(hq:r.pieces=[{q with id:=r.made,due:=0}])(h1:0<r.made)(hm:m.bW=r.made)(ha:m.asked=[(r.made,eX r.rows q)])(hw:m.waiting=[]):gK m r:=by
 have hpart:eX r.rows {q with id:=r.made,due:=0}=eX r.rows q:=rfl;refine⟨hm,?_,⟨[],List.Pairwise.nil,by rw[hw];rfl,?_,(fun q hq=>by cases hq)⟩,fun p hp=>?_⟩
 ·rw[ha,hq,List.filterMap_cons,show fE r.rows {q with id:=r.made,due:=0}=some (r.made,eX r.rows q) by unfold fE;rw[if_pos h1,hpart]];exact .refl _
 ·rw[hq,List.filterMap_cons,show eP r.rows {q with id:=r.made,due:=0}=none by unfold eP;rw[if_neg aj]];exact .refl _
 ·rw[hq]at hp;obtain rfl:=aZ.1 hp;exact .inr rfl
theorem Cj (bD:List Nat)(gs:List eu):∀k,((lu bD gs k).map fun x=>(x.group,x.column)).Nodup
 |0=>by simp[lu]
 |k+1=>by
  unfold lu;rw[a_,List.nodup_append];refine⟨Cj bD gs k,?_,fun a ha b hb e=>?_⟩
  ·unfold dP;rw[List.map_map];refine(List.nodup_range (n:=bD.length)).map _ (fun a b hab e=>hab ?_);simp at e;exact e
  ·obtain⟨x,hx,rfl⟩:=List.mem_map.1 ha;obtain⟨y,hy,rfl⟩:=List.mem_map.1 hb;have h1:=(sG bD gs k x hx).1;unfold dP at hy;obtain⟨i,-,rfl⟩:=List.mem_map.1 hy;have:x.group=k:=congrArg Prod.fst e;omega
theorem zB {A B:List bQ}{p q:bQ}(h:A++p::B=[q]):A=[]∧B=[]∧p=q:=by
 cases A with
 |nil=>rw[List.nil_append]at h;obtain⟨rfl,rfl⟩:=List.cons.inj h;exact⟨rfl,rfl,rfl⟩
 |cons x A=>simp at h
theorem yZ.aaA {m:Sc}{r:cO}{N:Nat}(h:yZ m r){p:bQ}(hf:FsS m r p){i:Nat}{q:bQ}(hq:Like p q)(kK:q.got.length=q.length)(hl:gK (dF m i) {r with pieces:=[q]})(hc:Core (dF m i) (eX r.rows p::partsOf (dF m i)) N)(hqi:q.id=0)(hqd:q.due=0):
 gB (mO (dF m i) (qp r.rows p) q.got) (iQ (dN {r with pieces:=[q]} q)):=by
 have zS:(dF m i).asked=[]:=by
  have:=hl.asked;rw[show({r with pieces:=[q]}:cO).pieces.filterMap (fE ({r with pieces:=[q]}:cO).rows)=[] by show[q].filterMap (fE r.rows)=[];rw[List.filterMap_cons,show fE r.rows q=none by unfold fE;rw[if_neg af]];rfl]at this;exact List.perm_nil.1 this
 have hwt:(dF m i).waiting=[]:=by
  obtain⟨W,w1,w2,w3,w4⟩:=hl.waits;rw[show({r with pieces:=[q]}:cO).pieces.filterMap (eP ({r with pieces:=[q]}:cO).rows)=[] by show[q].filterMap (eP r.rows)=[];rw[List.filterMap_cons,show eP r.rows q=none by unfold eP;rw[if_neg af]];rfl]at w3;rw[List.perm_nil.1 w3]at w2;exact w2
 have hsz:(dF m i).size=r.size:=h.size;have hs4:=hc.size;rw[hsz]at hs4;have hah:m.ahead=[]∧m.opened=0:=by
  have hx:qg (eX r.rows p).gW=false:=by
   show qg (qp r.rows p)=false;unfold qp;rcases hf.kind with⟨e,-⟩|⟨e,-⟩<;>rw[e]<;>rfl
  have:=hc.alone hx;exact⟨this.2.1,this.2.2⟩
 rcases hf.kind with⟨hk,hlen⟩|⟨hk,adK,ajf⟩
 ·
  have hqk:q.kind=0:=by rw[hq.1];exact hk
  have Mx:qp r.rows p=.tail:=by unfold qp;rw[if_pos hk]
  have ajg:q.got.length=6:=by rw[kK,hq.2.2.1];exact hlen
  rw[Mx];show gB (lI (dF m i) q.got) _;unfold dN lI jk;rw[if_pos hqk,hsz];have hmul:(q.got.getD 0 0).toNat*256+(q.got.getD 1 0).toNat=qD q.got:=by unfold qD;omega
  rw[hmul];by_cases hcnd:qD q.got<1∨r.size-10<qD q.got∨q.got.drop 2≠Pl.mark
  ·rw[if_pos hcnd,if_neg (fun e=>hcnd.elim (fun h=>af) (fun h=>h.elim (fun h=>af) (fun h=>h e.2.1))),sI aj];exact .inl ⟨2,by decide,rfl,rfl⟩
  ·rw[if_neg hcnd,if_pos ⟨ajg,Classical.byContradiction fun e=>hcnd (.inr (.inr e)),af,af⟩];simp only;generalize hn:qD q.got=n at*;have hn1:1≤n:=af;have hn2:n+10≤r.size:=af;rw[Nh {r with pieces:=[{kind:=1,place:=r.size-6-n,length:=n}]} {kind:=1,place:=r.size-6-n,length:=n} h.sH h.Ch rfl rfl hn1 rfl rfl];right;have Zx:=hl.made;refine⟨h.AU,h.sH,h.size,h.want,h.win,h.Ch,h.tries,h.dh,h.gap,?_,fun x hx=>?_,?_,.inl ⟨_,rfl,hf.rows,hf.there,hf.next,hf.Gw,.inr ⟨rfl,rfl,hn2⟩,by simp only;omega,rfl⟩⟩
   ·refine Qd {kind:=1,place:=r.size-6-n,length:=n} rfl (Nat.succ_pos _) ?_ ?_ hwt
    ·show m.bW+1=r.made+1;rw[show m.bW=r.made from Zx]
    ·show(dF m i).asked++[((dF m i).bW+1,(⟨r.size-6-n,n,[],0,.footer⟩:Part))]=[(r.made+1,_)]
     rw[zS,show(dF m i).bW=r.made from Zx];rfl
   ·obtain rfl:=aZ.1 hx;exact⟨aM _,fun _=>hn1⟩
   ·refine⟨[{kind:=1,place:=r.size-6-n,length:=n,id:=r.made+1,due:=0}],[],rfl,hah.1,(fun _ h=>by cases h),fun x hx=>?_,?_⟩
    ·obtain rfl:=aZ.1 hx;exact .inl (Nat.succ_pos _)
    ·exact hah.2
 ·
  have hqk:q.kind=1:=by rw[hq.1];exact hk
  have Mx:qp r.rows p=.footer:=by unfold qp;rw[if_neg af,if_pos hk]
  have hqp:q.place=r.size-6-q.got.length:=by rw[hq.2.1,adK,kK,hq.2.2.1]
  have R6:q.got.length+10≤r.size:=by rw[kK,hq.2.2.1];exact ajf
  rw[Mx];show gB (jT (dF m i) q.got) _;unfold dN jT;rw[if_neg af,if_pos hqk,hsz,←hqp];rcases FD q.got q.place af af with⟨e1,e2⟩|⟨e1,e2,hnm,l9,Ed,hRw,hPg⟩
  ·rw[e2,e1,if_neg aj,sI aj];exact .inl ⟨2,by decide,rfl,rfl⟩
  ·rw[e2,e1,if_pos rfl];simp only;have hfo:=qL q.got q.place af _ e2;generalize(iL q.got).1=names at*;generalize(dJ q.got q.place).1.1=R at*;generalize(dJ q.got q.place).1.2=PG at*;unfold nU;have hwant:(dF m i).want=dU r.want:=h.want;show gB (match columns names (dF m i).want with
    |none=>ended 3
    |some bD=>_) (iQ (match kJ r.want names with
    |none=>_
    |some bD=>_))
   rw[hwant,←yQ names r.want hnm];cases hcl:kJ r.want names with
   |none=>
    simp only;rw[sI aj];exact .inl ⟨3,by decide,rfl,rfl⟩
   |some bD=>
    simp only;have Q_:columns names (dU r.want)=some bD:=by rw[←yQ names r.want hnm];exact hcl
    obtain⟨c1,c2,c3,c4⟩:=vL _ _ _ Q_;have afi:=Ng hcl;simp only[List.length_nil,Nat.zero_add]at afi;have hw4:=hc.want;rw[hwant]at hw4;have X9:(lU R PG).length=R.length:=by unfold lU;rw[List.length_zipWith];omega
    by_cases h0:R.length=0
    ·rw[if_pos (by rw[X9];exact h0),sI (by rw[aQ,if_pos af];simp)];refine .inl ⟨1,by decide,rfl,?_⟩;show(if(PG.map _).length=0 then 1 else r.state)=1;rw[aQ,if_pos af]
    ·rw[if_neg (by rw[X9];exact h0),aQ,if_neg af];have BK:(dF m i).gap=r.gap:=h.gap;rw[BK];have hpm:(gL r.gap bD (PG.map (·.map kI)) PG.length).map (iY R)=fH r.gap bD (lU R PG):=by
      unfold fH;rw[X9,Ed];exact Du r.gap bD R PG Ed R.length (aK _)
     have hfr:=yj r.gap bD (PG.map (·.map kI)) PG.length;have hpc:=Qc r.gap q.place names.length bD (lU R PG) hfo.groups c3 hfo.count af af;rw[←hpm]at hpc;have ME:=(sF r.gap bD (lU R PG) (lU R PG).length).1;have h24:(lU R PG).length*bD.length≤6*4:=Nat.mul_le_mul hfo.count af;have adL:((gL r.gap bD (PG.map (·.map kI)) PG.length).flatMap fun p=>p.parts.map fun x=>(x.group,x.want)).Nodup:=by
      have e:((gL r.gap bD (PG.map (·.map kI)) PG.length).flatMap fun p=>p.parts.map fun x=>(x.group,x.want))=((fH r.gap bD (lU R PG)).flatMap (·.pages)).map fun x=>(x.group,x.column):=by
       rw[←hpm,List.flatMap_map,List.map_flatMap]
       congr 1
       funext p;show _=(p.parts.map (lq R)).map _;rw[List.map_map];rfl
      rw[e];exact((vg r.gap bD (lU R PG) (lU R PG).length).map _).nodup_iff.2 (Cj bD (lU R PG) _)
     have hlenp:(gL r.gap bD (PG.map (·.map kI)) PG.length).length≤24:=by
      have:(gL r.gap bD (PG.map (·.map kI)) PG.length).length=(fH r.gap bD (lU R PG)).length:=by rw[←hpm,aQ]
      rw[this];exact aO ME h24
     generalize gL r.gap bD (PG.map (·.map kI)) PG.length=ps at*;have XP:∀p∈ps,1≤p.length:=fun p hp=>(hpc (iY R p) (List.mem_map.2 ⟨p,hp,rfl⟩)).len
     have hemp:∀(g c:Nat),((List.replicate PG.length (List.replicate bD.length ([]:List Int))).getD g []).getD c []=[]:=fun g c=>by
      rw[aC (l:=List.replicate _ _),List.getElem?_replicate];split
      ·simp only[Option.getD_some];rw[aC,List.getElem?_replicate];split<;>rfl
      ·rfl
     have hrows:(lU R PG).map (·.rows)=R:=by
      unfold lU;apply List.ext_getElem?;intro j;rw[aN,List.getElem?_zipWith];by_cases hj:j<R.length
      ·rw[ay hj,ay (show j<PG.length from af)];rfl
      ·rw[bn af];rfl
     rw[hrows];obtain⟨M,hM⟩:∃M:Sc,M={dF m i with size:=r.size,want:=dU r.want,gap:=r.gap,rows:=jL bD.length R,ahead:=fH r.gap bD (lU R PG)}:=⟨_,rfl⟩
     obtain⟨RR,hRR⟩:∃RR:cO,RR={r with pieces:=ps,rows:=R,there:=List.replicate PG.length (List.replicate bD.length [])}:=⟨_,rfl⟩
     have hcl0:∀(g:bQ→Option (Nat×Part)),(∀p∈ps,g p=none)→ps.filterMap g=[]:=fun g hg=>List.filterMap_eq_nil_iff.2 hg
     have ajh:∀(g:bQ→Option (Nat×Nat×Part)),(∀p∈ps,g p=none)→ps.filterMap g=[]:=fun g hg=>List.filterMap_eq_nil_iff.2 hg
     have qM:gK M RR:=by
      rw[hM,hRR];refine⟨hl.made,?_,⟨[],List.Pairwise.nil,hwt,?_,(fun _ h=>by cases h)⟩,fun p hp=>.inl (hfr p hp).2.2.2.1⟩
      ·show(dF m i).asked.Perm (ps.filterMap (fE R));rw[zS,hcl0 _ (fun p hp=>by unfold fE;rw[if_neg (by have:=(hfr p hp).2.2.2.1;omega)])]
      ·show List.Perm [] (ps.filterMap (eP R));rw[ajh _ (fun p hp=>by unfold eP;rw[if_neg (by have:=(hfr p hp).2.2.2.2.1;omega)])]
     have hsp:El M.ahead M.opened RR.rows RR.pieces:=by
      rw[hM,hRR];exact⟨[],ps,rfl,hpm.symm,fun p hp=>⟨hfr p hp,XP p hp⟩,(fun _ h=>by cases h),hah.2⟩
     have wU:∀p∈ps,p.got.length=0:=fun p hp=>by rw[(hfr p hp).2.1];rfl
     obtain⟨g1,g2,ps',k,al,id',op,ah,g3,g4,g5,g6,g7⟩:=Nb qM (by rw[hRR];exact h.sH) (by rw[hM,hRR];exact h.win) (by rw[hRR];exact fun p hp=>⟨(hfr p hp).1,by rw[wU p hp];exact aM _⟩) hsp;have aji:({r with pieces:=ps,rows:=R,there:=List.replicate PG.length (List.replicate bD.length []),state:=r.state}:cO)=RR:=by rw[hRR]
     have hMf:({dF m i with size:=r.size,want:=dU r.want,gap:=r.gap,rows:=jL bD.length R,ahead:=fH r.gap bD (lU R PG)}:Sc)=M:=hM.symm;suffices Ni:gB (fV M) (iQ RR) by
      rw[hM,hRR]at Ni;exact Ni
     clear hMf aji;right;have X_:JL M RR:=by
      rw[hM,hRR];refine⟨fun p hp=>(hfr p hp).1,by show bD.length=r.want.length;omega,by show 1≤r.want.length;omega,?_,adL,fun p hp _ x _=>hemp _ _,hlenp,fun p hp=>hpc (iY R p) (List.mem_map.2 ⟨p,hp,rfl⟩),hRw,l9⟩;refine⟨by show(List.replicate _ _).length=_;simp;omega,fun g t ht=>?_,?_,fun j G hG=>?_,fun g t hg=>absurd hg (Nat.not_lt_zero _),fun g t l ht hlm=>?_,?_⟩
      ·have ht:(List.replicate PG.length (List.replicate bD.length ([]:List Int)))[g]?=some t:=ht;rw[List.getElem?_replicate]at ht;split at ht
       ·cases ht;simp[jL]
       ·cases ht
      ·show 0+(R.map _).length=R.length;simp
      ·have hG:(R.map fun n=>(⟨n,List.replicate bD.length [],bD.length⟩:gF))[j]?=some G:=hG;show R[0+j]?=_∧(List.replicate PG.length (List.replicate bD.length ([]:List Int)))[0+j]?=_;rw[Nat.zero_add];rw[aN]at hG;cases hj:R[j]? with
       |none=>rw[hj]at hG;cases hG
       |some n=>
        rw[hj]at hG;cases hG;refine⟨rfl,?_⟩;rw[List.getElem?_replicate,if_pos (by have:=(aL.1 hj).1;omega)]
      ·have ht:(List.replicate PG.length (List.replicate bD.length ([]:List Int)))[g]?=some t:=ht;rw[List.getElem?_replicate]at ht;split at ht
       ·cases ht;exact .inl (List.eq_of_mem_replicate hlm)
       ·cases ht
      ·show r.next=_;rw[hf.next];rfl
     rw[g3,g4]at g1 g2;rw[g3,g4];refine⟨by rw[hM];exact h.AU,by rw[hRR];exact h.sH,by rw[hM,hRR],by rw[hM,hRR],by rw[hM,hRR];exact h.win,by rw[hRR];exact h.Ch,by rw[hM,hRR];exact h.tries,by rw[hM,hRR];exact h.dh,by rw[hM,hRR],g1,fun x hx=>?_,g2,.inr (X_.like g6 rfl rfl rfl rfl rfl)⟩;rcases g7 x hx with hx|hx
     ·have hx:x∈ps:=by rw[hRR]at hx;exact hx
      refine⟨by rw[wU x hx];exact aM _,fun e=>?_⟩;have:=hfr x hx;rw[this.2.2.2.1,this.2.2.2.2.1]at e;omega
     ·exact⟨Nat.le_of_lt hx,fun _=>hx⟩
theorem yZ.aaB {m:Sc}{r:cO}{N:Nat}(h:yZ m r)(hpg:JL m r){A B:List bQ}{p:bQ}(hr:r.pieces=A++p::B)(h0:0<p.id)(_hd:p.due=0){i:Nat}{q:bQ}(hq:Like p q)(kK:q.got.length=q.length)(hl:gK (dF m i) {r with pieces:=A++q::B})(hc:Core (dF m i) (eX r.rows p::partsOf (dF m i)) N)(hqi:q.id=0)(hqd:q.due=0):
 gB (mO (dF m i) (qp r.rows p) q.got) (iQ (dN {r with pieces:=A++q::B} q)):=by
 have hpm:p∈r.pieces:=by rw[hr];simp
 have hk:=hpg.kinds p hpm;have hqk:q.kind=2:=by rw[hq.1];exact hk
 have hpl:=(h.got p hpm).2 (.inl h0);rw[vO hk];show gB (kX (dF m i) (iY r.rows p) q.got) _;have hrw:dN {r with pieces:=A++q::B} q=iB q q.parts {r with pieces:=A++q::B}:=by
  unfold dN;rw[if_neg af,if_neg af]
 rw[hrw];have hcr:=hc.rows;unfold pend at hcr;rw[List.flatMap_cons,aW]at hcr;have hap:mZ (eX r.rows p).gW=q.parts.map (lq r.rows):=by
  show mZ (qp r.rows p)=_;rw[vO hk,hq.2.2.2];rfl
 rw[hap]at hcr;have ajj:iY r.rows p=iY r.rows q:=(hq.pc r.rows).symm;rw[ajj];have adM:(iY r.rows q).pages=q.parts.map (lq r.rows):=rfl;unfold kX;rw[adM];have hmr:(dF m i).rows=m.rows:=rfl;rcases Nf q q.parts m.rows {r with pieces:=A++q::B} _ hcr hpg.rows with⟨a,th,b⟩|⟨rw',th,a,b,c,d,e⟩
 ·rw[hmr,b,show mM (iY r.rows q) q.got (q.parts.map (lq r.rows)) m.rows=none from a,sI aj];exact .inl ⟨2,by decide,rfl,rfl⟩
 ·rw[hmr,b,show mM (iY r.rows q) q.got (q.parts.map (lq r.rows)) m.rows=some rw' from a];simp only;obtain⟨M,hM⟩:∃M:Sc,M={dF m i with rows:=rw',opened:=(dF m i).opened-1}:=⟨_,rfl⟩
  obtain⟨RR,hRR⟩:∃RR:cO,RR={r with pieces:=A++q::B,there:=th}:=⟨_,rfl⟩
  suffices Ni:gB (fV M) (iQ RR) by
   rw[hM,hRR]at Ni;exact Ni
  have qM:gK M RR:=by rw[hM,hRR];exact⟨hl.made,hl.asked,hl.waits,hl.one⟩
  have ajk:opn p=true:=by unfold opn;rw[aH hk,aH hpl];rfl
  have ajl:opn q=false:=by unfold opn;rw[aG (show¬q.got.length<q.length from af),Bool.and_false]
  have Iq:=h.sp;rw[hr]at Iq;have hsp1:=Iq.set h0 q (.inr (.inr kK));rw[if_pos ajk,ajl,if_neg aj,Nat.add_zero]at hsp1;have hsp:El M.ahead M.opened RR.rows RR.pieces:=by rw[hM,hRR];exact hsp1
  have Zy:∀x∈A++q::B,x.got.length≤x.length∧(0<x.id∨0<x.due→x.got.length<x.length):=fun x hx=>by
   rcases nK hx with rfl|hx
   ·exact⟨af,fun e=>af⟩
   ·exact h.got x (gK.mem hr hx)
  have hkq:∀x∈A++q::B,x.kind=2:=fun x hx=>by
   rcases nK hx with rfl|hx
   ·exact hqk
   ·exact hpg.kinds x (gK.mem hr hx)
  have hlk:mo r.pieces (A++q::B):=by rw[hr];exact mo.mid hq (fun e=>af)
  obtain⟨g1,g2,ps',k,al,id',op,ah,g3,g4,g5,g6,g7⟩:=Nb qM (by rw[hRR];exact h.sH) (by rw[hM,hRR];exact h.win) (by rw[hRR];exact fun x hx=>⟨hkq x hx,(Zy x hx).1⟩) hsp;have X_:JL M RR:=by
   rw[hM,hRR];refine⟨hkq,by show rw'.columns=r.want.length;rw[d];exact hpg.bD,hpg.KM,c,by show(List.flatMap _ (A++q::B)).Nodup;rw[hlk.flat];exact hpg.nodup,fun x hx hg y hy=>?_,by show(A++q::B).length≤24;rw[hlk.1];exact hpg.few,fun x hx=>?_,hpg.rws,hpg.Va⟩
   ·rcases nK hx with rfl|hx
    ·omega
    ·have B_:=gK.mem hr hx;have h1:=hpg.empty x B_ hg y hy;have h2:=e y.group y.want ?_
     ·exact h2.trans h1
     ·intro hmem;have hnd:=hpg.nodup;rw[hr]at hnd;have hpp:((A++p::B).flatMap fun p=>p.parts.map fun x=>(x.group,x.want)).Perm ((p.parts.map fun x=>(x.group,x.want))++(A++B).flatMap fun p=>p.parts.map fun x=>(x.group,x.want)):=by
       have:=(List.perm_middle (a:=p) (l₁:=A) (l₂:=B)).flatMap_right (fun p=>p.parts.map fun x=>(x.group,x.want));rw[List.flatMap_cons]at this;exact this
      have adN:=hpp.nodup_iff.1 hnd;rw[List.nodup_append]at adN;rw[hq.2.2.2]at hmem;exact adN.2.2 _ hmem _ (List.mem_flatMap.2 ⟨x,hx,List.mem_map.2 ⟨y,hy,rfl⟩⟩) rfl
   ·obtain⟨x0,hx0,a,-⟩:=hlk.mem hx;show M6 (iY r.rows x);rw[a.pc];exact hpg.pF x0 hx0
  rw[g3,g4]at g1 g2;rw[g3,g4];right;refine⟨by rw[hM];exact h.AU,by rw[hRR];exact h.sH,by rw[hM,hRR];exact h.size,by rw[hM,hRR];exact h.want,by rw[hM,hRR];exact h.win,by rw[hRR];exact h.Ch,by rw[hM,hRR];exact h.tries,by rw[hM,hRR];exact h.dh,by rw[hM,hRR];exact h.gap,g1,fun x hx=>?_,g2,.inr (X_.like g6 rfl rfl rfl rfl rfl)⟩;rcases g7 x hx with hx|hx
  ·exact Zy x (by rw[hRR]at hx;exact hx)
  ·exact⟨Nat.le_of_lt hx,fun _=>hx⟩
theorem gB.answer {m:Sc}{r:cO}{N:Nat}(h:gB m r)(hi:fQ m)(hg:Good m N)(id:Int)(data:List UInt8):(Pl.answer m id data).2=(fF r id data).2∧gB (Pl.answer m id data).1 (fF r id data).1:=by
 have afj:=h.fail hi id;rcases h with⟨why,h1,rfl,h2⟩|h
 ·unfold Pl.answer fF;rw[Gx,y5 af];exact⟨rfl,.inl ⟨why,h1,rfl,h2⟩⟩
 ·have hgo:=hg.going h.AU;rcases h.line.find hi h.sH id with⟨a,b⟩|⟨i,A,p,B,a,b,hr,hid,h0,hd,hpt,hpe⟩
  ·unfold Pl.answer fF;rw[a,b];exact⟨rfl,.inr h⟩
  ·unfold Pl.answer fF;rw[a,b];simp only;have hpc:jE r A.length=p:=by unfold jE;rw[hr];exact qV A p B
   have hpm:p∈r.pieces:=by rw[hr];simp
   have hgl:=(h.got p hpm).2 (.inl h0);rw[hpt,hpc];have el:(eX r.rows p).length-(eX r.rows p).data.length=p.length-p.got.length:=rfl;rw[el];by_cases c1:p.length-p.got.length<data.length
   ·rw[if_pos c1,if_pos c1];exact⟨rfl,.inr h⟩
   ·rw[if_neg c1,if_neg c1];by_cases c2:data.length=0
    ·rw[if_pos c2,if_pos c2];exact afj
    ·rw[if_neg c2,if_neg c2];refine⟨rfl,?_⟩;simp only;unfold uN Pl.nR;simp only;rw[hpc];have hmod:(r.pieces.modify A.length fun p=>{p with got:=p.got++data,id:=0})=A++{p with got:=p.got++data,id:=0}::B:=by rw[hr,oo]
     rw[hmod];have hdl:(eX r.rows p).data.length+data.length=(p.got++data).length:=by rw[aD];rfl
     rw[hdl];show gB (if(p.got++data).length<p.length then _ else _) _;by_cases c3:(p.got++data).length<p.length
     ·rw[if_pos c3,if_pos c3];obtain⟨q,hq'⟩:∃q:bQ,q={p with got:=p.got++data,id:=r.made+1,due:=0}:=⟨_,rfl⟩
      have hmk:fB {r with pieces:=A++{p with got:=p.got++data,id:=0}::B} A.length={r with pieces:=A++q::B,made:=r.made+1}:=by
       unfold fB;simp only;rw[oo,hq']
      rw[hmk];have hlk:Like p q:=by rw[hq'];exact⟨rfl,rfl,rfl,rfl⟩
      have hqg:q.got=p.got++data:=by rw[hq']
      have hpart:eX r.rows q={eX r.rows p with data:=(eX r.rows p).data++data}:=by rw[hq'];rfl
      have qM:=h.line.again hr hd hpe q (by rw[hq']) (by rw[hq']);rw[hpart]at qM;have Iq:=h.sp;rw[hr]at Iq;have hsp1:=Iq.set h0 q (.inl (by rw[hq'];exact Nat.succ_pos _));have Ci:opn q=opn p:=by
       unfold opn;rw[hlk.1,hlk.2.2.1,hqg,aH c3,aH hgl]
      have Nc:m.opened-(if opn p=true then 1 else 0)+(if opn q=true then 1 else 0)=m.opened:=by
       rw[Ci];by_cases e:opn p=true
       ·obtain⟨A2,B2,-,-,-,-,h5⟩:=Iq.mid h0;have:1≤m.opened:=by rw[h5,List.filter_append,List.filter_cons,if_pos e];simp;omega
        rw[if_pos e];omega
       ·rw[if_neg e];rfl
      rw[Nc]at hsp1;right;refine⟨h.AU,h.sH,h.size,h.want,h.win,h.Ch,h.tries,h.dh,h.gap,qM,fun x hx=>?_,hsp1,?_⟩
      ·rcases nK hx with rfl|hx
       ·rw[hqg,hlk.2.2.1];exact⟨Nat.le_of_lt c3,fun _=>c3⟩
       ·exact h.got x (gK.mem hr hx)
      ·rcases h.phase with⟨p0,hf0⟩|hpg
       ·left;have hpp:=hf0.pieces;rw[hr]at hpp;obtain⟨rfl,rfl,rfl⟩:=zB hpp;refine⟨q,rfl,hf0.rows,hf0.there,hf0.next,hf0.Gw,?_,?_,by rw[hlk.2.2.2];exact hf0.parts⟩
        ·rw[hlk.1,hlk.2.1,hlk.2.2.1];exact hf0.kind
        ·rw[hlk.2.1,hlk.2.2.1];exact hf0.ends
       ·exact .inr (hpg.like (by rw[hr];exact mo.mid hlk (fun _=>hgl)) rfl rfl rfl rfl rfl)
     ·rw[if_neg c3,if_neg c3];have hget:jE {r with pieces:=A++{p with got:=p.got++data,id:=0}::B} A.length={p with got:=p.got++data,id:=0}:=qV A _ B;rw[hget];obtain⟨q,hq'⟩:∃q:bQ,q={p with got:=p.got++data,id:=0}:=⟨_,rfl⟩
      rw[←hq'];have hlk:Like p q:=by rw[hq'];exact⟨rfl,rfl,rfl,rfl⟩
      have hqg:(eX r.rows p).data++data=q.got:=by rw[hq'];rfl
      rw[hqg];have R6:q.got.length=q.length:=by
       rw[←hqg,hlk.2.2.1];show(p.got++data).length=p.length;rw[aD]at c3⊢;omega
      have qM:=h.line.gone hr hd hpe q (by rw[hq']) (by rw[hq'];exact hd);have htk:=(hgo.taken i (pJ a)).1;rw[hpt]at htk;show gB (mO (dF m i) (qp r.rows p) q.got) _;rcases h.phase with⟨p0,hf0⟩|hpg
      ·have hpp:=hf0.pieces;rw[hr]at hpp;obtain⟨rfl,rfl,rfl⟩:=zB hpp;exact h.aaA hf0 hlk R6 qM htk (by rw[hq']) (by rw[hq'];exact hd)
      ·exact h.aaB hpg hr h0 hd hlk R6 qM htk (by rw[hq']) (by rw[hq'];exact hd)
theorem gB.open (size:Nat)(want:List (List UInt8))(w t n g:Nat)(hs:size≤4000)(hw:1≤w):gB (kG size want w t n g) (qJ size want w t n g):=by
 unfold kG qJ;by_cases h:size<10
 ·rw[if_pos h,if_pos h];exact .inl ⟨2,by decide,rfl,rfl⟩
 ·rw[if_neg h,if_neg h];rw[Nh _ {kind:=0,place:=size-6,length:=6} rfl hw rfl rfl (by show 1≤6;omega) rfl rfl];right;refine⟨rfl,rfl,rfl,rfl,rfl,hw,rfl,rfl,rfl,?_,fun x hx=>?_,?_,.inl ⟨_,rfl,rfl,rfl,rfl,rfl,.inl ⟨rfl,rfl⟩,by show size-6+6≤4000;omega,rfl⟩⟩
  ·exact Qd {kind:=0,place:=size-6,length:=6} rfl (Nat.succ_pos _) rfl rfl rfl
  ·obtain rfl:=aZ.1 hx;exact⟨aM _,fun _=>by show 0<6;omega⟩
  ·refine⟨[{kind:=0,place:=size-6,length:=6,id:=1,due:=0}],[],rfl,rfl,(fun _ h=>by cases h),fun x hx=>?_,rfl⟩;obtain rfl:=aZ.1 hx;exact .inl (by show 0<1;omega)
theorem Nj {α:Type}(f:α→Nat):∀(l l':List α),(l.map f).Pairwise (·<·)→(l'.map f).Pairwise (·<·)→l.Perm l'→l=l'
 |[],l',_,_,h=>(List.nil_perm.1 h).symm
 |a::l,[],_,_,h=>by have:=h.length_eq;simp at this
 |a::l,b::l',h1,h2,h=>by
  rw[List.map_cons,List.pairwise_cons]at h1 h2;have hab:a=b:=by
   rcases List.mem_cons.1 (h.mem_iff.1 (List.mem_cons_self (a:=a) (l:=l)))with e|e
   ·exact e
   ·rcases List.mem_cons.1 (h.mem_iff.2 (List.mem_cons_self (a:=b) (l:=l')))with e'|e'
    ·exact e'.symm
    ·have:=h1.1 _ (List.mem_map.2 ⟨b,e',rfl⟩);have:=h2.1 _ (List.mem_map.2 ⟨a,e,rfl⟩);omega
  subst hab;rw[Nj f l l' h1.2 h2.2 h.cons_inv]
theorem AV {α β:Type}(f g h:α→Option β):∀(l:List α),(∀a∈l,(f a=h a∧g a=none)∨(g a=h a∧f a=none))→(l.filterMap f++l.filterMap g).Perm (l.filterMap h)
 |[],_=>.refl _
 |a::l,hl=>by
  have ih:=AV f g h l (fun b hb=>hl b (by simp[hb]));simp only[List.filterMap_cons];rcases hl a aj with⟨e1,e2⟩|⟨e1,e2⟩
  ·rw[e2,←e1];cases f a with
   |none=>exact ih
   |some b=>exact ih.cons b
  ·rw[e2,←e1];cases g a with
   |none=>exact ih
   |some b=>exact List.perm_middle.trans (ih.cons b)
theorem zC {α β:Type}{f g:α→Option β}:∀{l:List α},(∀a∈l,f a=g a)→l.filterMap f=l.filterMap g
 |[],_=>rfl
 |a::l,h=>by rw[List.filterMap_cons,List.filterMap_cons,h a aj,zC (l:=l) (fun b hb=>h b (by simp[hb]))]
def Ya (p:bQ):Nat×Nat×Nat:=(p.id,p.place+p.got.length,p.length-p.got.length)
theorem Ck (l:List bQ):∀k,(fK l k).Perm (l.filterMap fun p=>if 1≤p.id∧p.id≤k then some (Ya p)else none)
 |0=>by
  rw[List.filterMap_eq_nil_iff.2 (fun p _=>by rw[if_neg af])];exact .refl _
 |k+1=>by
  unfold fK;refine((Ck l k).append_right _).trans ?_;unfold iT;refine AV _ _ _ l (fun p _=>?_);by_cases h1:1≤p.id∧p.id≤k
  ·exact .inl ⟨by rw[if_pos h1,if_pos af],by rw[if_neg af]⟩
  ·right;refine⟨?_,by rw[if_neg h1]⟩;by_cases h2:p.id=k+1
   ·rw[if_pos h2,if_pos af];unfold Ya;rw[h2]
   ·rw[if_neg h2,if_neg af]
theorem zD (l:List bQ):∀k,((fK l k).map (·.1)).Pairwise (·≤·)∧∀x∈fK l k,x.1≤k
 |0=>⟨List.Pairwise.nil,fun _ h=>by cases h⟩
 |k+1=>by
  obtain⟨h1,h2⟩:=zD l k;have h3:∀x∈iT (k+1) l,x.1=k+1:=fun x hx=>by
   unfold iT at hx;obtain⟨p,-,e⟩:=List.mem_filterMap.1 hx;split at e
   ·cases e;rfl
   ·cases e
  unfold fK;refine⟨?_,fun x hx=>?_⟩
  ·rw[a_,List.pairwise_append];refine⟨h1,?_,fun a ha b hb=>?_⟩
   ·rw[List.pairwise_map];exact List.pairwise_of_forall_mem_list (fun a ha b hb=>by rw[h3 a ha,h3 b hb];exact aK _)
   ·obtain⟨x,hx,rfl⟩:=List.mem_map.1 ha;obtain⟨y,hy,rfl⟩:=List.mem_map.1 hb;have:=h2 x hx;have:=h3 y hy;omega
  ·rcases aI.1 hx with hx|hx
   ·have:=h2 x hx;omega
   ·have:=h3 x hx;omega
theorem gB.asked {m:Sc}{r:cO}(h:gB m r)(hi:fQ m):m.asked.map xL=jg r:=by
 rcases h with⟨why,h1,rfl,h2⟩|h
 ·unfold jg;rw[if_neg af];rfl
 ·unfold jg;rw[if_pos h.sH];have hp1:(m.asked.map xL).Perm (r.pieces.filterMap fun p=>if 0<p.id then some (Ya p)else none):=by
   refine(h.line.asked.map xL).trans (.of_eq ?_);rw[List.map_filterMap]
   congr 1
   funext p;unfold fE;by_cases h0:0<p.id
   ·rw[if_pos h0,if_pos h0];rfl
   ·rw[if_neg h0,if_neg h0];rfl
  have hk1:((m.asked.map xL).map (·.1)).Pairwise (·<·):=by
   rw[List.map_map];exact hi.1
  have hid:∀p∈r.pieces,0<p.id→p.id≤r.made:=fun p hp h0=>by
   have:=h.line.asked.mem_iff.2 (List.mem_filterMap.2 ⟨p,hp,by unfold fE;rw[if_pos h0]⟩);have:=(hi.2 _ this).2;rw[h.line.made]at this;exact this
  have hp2:(fK r.pieces r.made).Perm (m.asked.map xL):=by
   refine(Ck r.pieces r.made).trans ((List.Perm.of_eq ?_).trans hp1.symm);refine zC (fun p hp=>?_);by_cases h0:0<p.id
   ·rw[if_pos h0,if_pos ⟨h0,hid p hp h0⟩]
   ·rw[if_neg h0,if_neg af]
  have hk2:((fK r.pieces r.made).map (·.1)).Pairwise (·<·):=by
   have h3:=(zD r.pieces r.made).1;have h4:((fK r.pieces r.made).map (·.1)).Nodup:=(hp2.map _).nodup_iff.2 (hk1.imp (fun h=>Nat.ne_of_lt h));exact(h3.and h4).imp (fun h=>Nat.lt_of_le_of_ne h.1 h.2)
  exact Nj (·.1) _ _ hk1 hk2 hp2.symm
end
namespace Pl
def pK (p:bQ):Nat×Nat×Nat:=(p.place,p.length,p.got.length)
def Gy (s:Nat×Nat×Nat):Prop:=s.2.1≤5000∧s.2.2≤s.2.1∧s.1≤5000
structure RB (N:Nat)(r:cO):Prop where
 few:r.pieces.length≤24
 pF:∀s∈r.pieces.map pK,Gy s
 made:r.made≤N
 now:r.now≤N
 fails:r.fails≤N
 size:r.size≤4000
 tries:r.tries≤4
 gap:r.gap≤32
 dh:r.dh≤20
 want:r.want.length≤1000000000
theorem RB.pc {N:Nat}{r:cO}(h:RB N r):∀p∈r.pieces,p.length≤5000∧p.got.length≤p.length∧p.place≤5000:=fun p hp=>h.pF (pK p) (List.mem_map_of_mem hp)
theorem RB.mono {N M:Nat}{r:cO}(h:RB N r)(hm:N≤M):RB M r:=⟨h.few,h.pF,aO h.made hm,aO h.now hm,aO h.fails hm,h.size,h.tries,h.gap,h.dh,h.want⟩
theorem oV {α β:Type}(g:α→β)(f:α→α)(h:∀a,g (f a)=g a):∀(l:List α)(i:Nat),(l.modify i f).map g=l.map g
 |[],i=>by cases i<;>rfl
 |a::l,0=>by simp[h]
 |a::l,i+1=>by simp[oV g f h l i]
structure rF (r r':cO):Prop where
 pK:r'.pieces.map pK=r.pieces.map pK
 size:r'.size=r.size
 tries:r'.tries=r.tries
 gap:r'.gap=r.gap
 dh:r'.dh=r.dh
 want:r'.want=r.want
theorem rF.refl (r:cO):rF r r:=⟨rfl,rfl,rfl,rfl,rfl,rfl⟩
theorem rF.trans {a b c:cO}(h:rF a b)(k:rF b c):rF a c:=⟨k.pK.trans h.pK,k.size.trans h.size,k.tries.trans h.tries,k.gap.trans h.gap,k.dh.trans h.dh,k.want.trans h.want⟩
theorem rF.len {r r':cO}(h:rF r r'):r'.pieces.length=r.pieces.length:=by have:=congrArg List.length h.pK;simpa using this
theorem RB.kin {N M:Nat}{r r':cO}(h:RB N r)(k:rF r r')(h1:r'.made≤M)(h2:r'.now≤M)(h3:r'.fails≤M):RB M r':=
 ⟨by rw[k.len];exact h.few,by rw[k.pK];exact h.pF,h1,h2,h3,by rw[k.size];exact h.size,by rw[k.tries];exact h.tries,by rw[k.gap];exact h.gap,by rw[k.dh];exact h.dh,by rw[k.want];exact h.want⟩
theorem Aj (r:cO)(i:Nat):rF r (fB r i):=⟨by show List.map Pl.pK (List.modify _ _ _)=_;refine oV Pl.pK _ ?_ _ _;intro a;rfl,rfl,rfl,rfl,rfl,rfl⟩
theorem yB :∀(f i n:Nat)(r:cO),rF r (fZ f i n r)∧(fZ f i n r).made≤r.made+f∧(fZ f i n r).now=r.now∧(fZ f i n r).fails=r.fails∧(fZ f i n r).state=r.state
 |0,_,_,r=>⟨rF.refl r,aK _,rfl,rfl,rfl⟩
 |f+1,i,n,r=>by
  unfold fZ;split
  ·split
   ·obtain⟨a,b,c,d,e⟩:=yB f (i+1) n r;exact⟨a,af,c,d,e⟩
   ·split
    ·obtain⟨a,b,c,d,e⟩:=yB f (i+1) (n+1) (fB r i);exact⟨(Aj r i).trans a,by have:(fB r i).made=r.made+1:=rfl;omega,c,d,e⟩
    ·obtain⟨a,b,c,d,e⟩:=yB f (i+1) (n+1) r;exact⟨a,af,c,d,e⟩
  ·exact⟨rF.refl r,af,rfl,rfl,rfl⟩
theorem EY (r:cO):rF r (iQ r)∧(iQ r).made≤r.made+r.pieces.length∧(iQ r).now=r.now∧(iQ r).fails=r.fails∧(iQ r).state=r.state:=yB _ _ _ _
theorem Yb (r:cO)(h:r.state≠0):iQ r=r:=by
 unfold iQ;cases r.pieces.length with
 |zero=>rfl
 |succ n=>unfold fZ;rw[if_neg (fun e=>h e.2.2)]
theorem Gz :∀(f:Nat)(r:cO),rF r (jh f r)∧(jh f r).made≤r.made+f∧(jh f r).now=r.now∧(jh f r).fails=r.fails
 |0,r=>⟨rF.refl r,aK _,rfl,rfl⟩
 |f+1,r=>by
  unfold jh;split
  ·exact⟨rF.refl r,af,rfl,rfl⟩
  ·rename_i i _;obtain⟨a,b,c,d⟩:=Gz f (fB r i);exact⟨(Aj r i).trans a,by have:(fB r i).made=r.made+1:=rfl;omega,c,d⟩
theorem RB.tick {N:Nat}{r:cO}(h:RB N r):RB (N+25) (lG r):=by
 unfold lG;split
 ·obtain⟨a,b,c,d⟩:=Gz r.pieces.length {r with now:=r.now+1};have h1:=h.made;have h2:=h.now;have h3:=h.fails;have h4:=h.few;have k0:rF r {r with now:=r.now+1}:=⟨rfl,rfl,rfl,rfl,rfl,rfl⟩
  exact h.kin (k0.trans a) (by simp only at b;omega) (by rw[c];simp only;omega) (by rw[d];simp only;omega)
 ·exact h.mono af
theorem RB.fail {N:Nat}{r:cO}(h:RB N r)(id:Int):RB (N+25) (iV r id).1:=by
 unfold iV;have h1:=h.made;have h2:=h.now;have h3:=h.fails;split
 ·exact h.mono af
 ·rename_i i _;unfold rA;split
  ·exact h.kin ⟨by show List.map Pl.pK (List.modify _ _ _)=_;refine oV Pl.pK _ ?_ _ _;intro a;rfl,rfl,rfl,rfl,rfl,rfl⟩ (by simp only;omega) (by simp only;omega) (by simp only;omega)
  ·exact h.kin ⟨by show List.map Pl.pK (List.modify _ _ _)=_;refine oV Pl.pK _ ?_ _ _;intro a;rfl,rfl,rfl,rfl,rfl,rfl⟩ (by simp only;omega) (by simp only;omega) (by simp only;omega)
theorem RB.cancel {N:Nat}{r:cO}(h:RB N r):RB N (mG r):=by
 unfold mG;split
 ·exact h.kin ⟨rfl,rfl,rfl,rfl,rfl,rfl⟩ h.made h.now h.fails
 ·exact h
theorem RB.next {N:Nat}{r:cO}(h:RB N r):RB N (iE r).1:=by
 unfold iE;split
 ·split
  ·exact h
  ·exact h.kin ⟨rfl,rfl,rfl,rfl,rfl,rfl⟩ h.made h.now h.fails
 ·exact h
theorem GA (p:bQ):∀(l:List eU)(r:cO),rF r (iB p l r)∧(iB p l r).made=r.made∧(iB p l r).now=r.now∧(iB p l r).fails=r.fails
 |[],r=>⟨rF.refl r,rfl,rfl,rfl⟩
 |x::t,r=>by
  unfold iB;split
  ·exact⟨⟨rfl,rfl,rfl,rfl,rfl,rfl⟩,rfl,rfl,rfl⟩
  ·rename_i l _;split
   ·obtain⟨a,b,c,d⟩:=GA p t {r with there:=r.there.modify x.group fun ls=>ls.set x.want l};exact⟨⟨a.pK,a.size,a.tries,a.gap,a.dh,a.want⟩,b,c,d⟩
   ·exact⟨⟨rfl,rfl,rfl,rfl,rfl,rfl⟩,rfl,rfl,rfl⟩
theorem GD {N:Nat}(r:cO)(p:bQ)(h:RB N r):(dN r p).made=r.made∧(dN r p).now=r.now∧(dN r p).fails=r.fails∧(dN r p).size=r.size∧(dN r p).tries=r.tries∧(dN r p).gap=r.gap∧(dN r p).dh=r.dh∧(dN r p).want=r.want∧((dN r p).state≠0→r.state=0→(dN r p).pieces.length≤24∧∀s∈(dN r p).pieces.map pK,Gy s):=by
 unfold dN;split
 ·split
  ·exact⟨rfl,rfl,rfl,rfl,rfl,rfl,rfl,rfl,fun _ _=>⟨h.few,h.pF⟩⟩
  ·exact⟨rfl,rfl,rfl,rfl,rfl,rfl,rfl,rfl,fun a b=>absurd b a⟩
 ·split
  ·split
   ·unfold nU;split
    ·exact⟨rfl,rfl,rfl,rfl,rfl,rfl,rfl,rfl,fun _ _=>⟨h.few,h.pF⟩⟩
    ·refine⟨rfl,rfl,rfl,rfl,rfl,rfl,rfl,rfl,fun a b=>?_⟩;simp only at a⊢;split at a
     ·rename_i e;rw[e];exact⟨aM _,fun s hs=>by cases hs⟩
     ·exact absurd b a
   ·exact⟨rfl,rfl,rfl,rfl,rfl,rfl,rfl,rfl,fun _ _=>⟨h.few,h.pF⟩⟩
  ·obtain⟨a,b,c,d⟩:=GA p p.parts r;exact⟨b,c,d,a.size,a.tries,a.gap,a.dh,a.want,fun _ _=>⟨by rw[a.len];exact h.few,by rw[a.pK];exact h.pF⟩⟩
theorem gB.pF {m:Sc}{r:cO}(h:gB m r)(h0:r.state=0):r.pieces.length≤24∧∀s∈r.pieces.map pK,Gy s:=by
 rcases h with⟨why,hw,-,e⟩|h
 ·exact absurd (e.symm.trans h0) hw
 ·refine⟨?_,fun s hs=>?_⟩
  ·rcases h.phase with⟨p,hf⟩|hp
   ·rw[hf.pieces];simp
   ·exact hp.few
  ·obtain⟨p,hp,rfl⟩:=List.mem_map.1 hs;have hg:=(h.got p hp).1;rcases h.phase with⟨q,hf⟩|hpg
   ·rw[hf.pieces]at hp;obtain rfl:=aZ.1 hp;have:=hf.ends;exact⟨by show p.length≤5000;omega,hg,by show p.place≤5000;omega⟩
   ·have:p.place+p.length≤5000:=(hpg.pF p hp).ends;exact⟨by show p.length≤5000;omega,hg,by show p.place≤5000;omega⟩
theorem RB.answer {N:Nat}{m:Sc}{r:cO}(h:RB N r)(id:Int)(data:List UInt8)(hs:gB m (fF r id data).1):RB (N+25) (fF r id data).1:=by
 unfold fF at*;have h1:=h.made;have h2:=h.now;have h3:=h.fails;have h4:=h.few;cases hf:iO r id with
 |none=>exact h.mono af
 |some i=>
  have hst:r.state=0∧i<r.pieces.length:=by
   unfold iO at hf;split at hf
   ·rename_i e;refine⟨e.1,?_⟩;have:=List.findIdx?_eq_some_iff_findIdx_eq.1 hf;exact this.1
   ·cases hf
  rw[hf]at hs;simp only at hs⊢;split
  ·exact h.mono af
  ·rename_i hle;rw[if_neg hle]at hs;split
   ·have:=h.fail id;exact this
   ·rename_i hne;rw[if_neg hne]at hs;simp only at hs⊢;have hpc:jE r i=r.pieces[i]'hst.2:=by unfold jE;rw[aC,ay hst.2];rfl
    have hpb:=h.pc _ (aJ hst.2);rw[hpc]at hle;have hle2:data.length≤(r.pieces[i]'hst.2).length-(r.pieces[i]'hst.2).got.length:=af;have AJ:RB N {r with pieces:=r.pieces.modify i fun p=>{p with got:=p.got++data,id:=0} }:=by
     refine⟨by simpa using h.few,fun s hs=>?_,h1,h2,h3,h.size,h.tries,h.gap,h.dh,h.want⟩;obtain⟨p,hp,rfl⟩:=List.mem_map.1 hs;obtain⟨j,hj,rfl⟩:=List.mem_iff_getElem.1 hp;simp only[List.length_modify]at hj;simp only[List.getElem_modify];split
     ·rename_i e;subst e;exact⟨hpb.1,by show((r.pieces[i]'hst.2).got++data).length≤(r.pieces[i]'hst.2).length;rw[aD];omega,hpb.2.2⟩
     ·exact h.pc _ (aJ hj)
    unfold uN at*;simp only at hs⊢;split
    ·exact AJ.kin (Aj _ _) (by show r.made+1≤_;omega) (by show r.now≤_;omega) (by show r.fails≤_;omega)
    ·rename_i hge;rw[if_neg hge]at hs;generalize jE _ i=q at*;generalize hr1:({r with pieces:=r.pieces.modify i fun p=>{p with got:=p.got++data,id:=0} }:cO)=r1 at*;have e0:r1.state=0:=by rw[←hr1];exact hst.1
     have e1:r1.made=r.made:=by rw[←hr1]
     have e2:r1.now=r.now:=by rw[←hr1]
     have e3:r1.fails=r.fails:=by rw[←hr1]
     obtain⟨a1,a2,a3,a4,a5,a6,a7,a8,a9⟩:=GD r1 q AJ;obtain⟨b0,b1,b2,b3,b4⟩:=EY (dN r1 q);have hP:(iQ (dN r1 q)).pieces.length≤24∧∀s∈(iQ (dN r1 q)).pieces.map pK,Gy s:=by
      by_cases hq:(dN r1 q).state=0
      ·exact gB.pF hs (by rw[b4];exact hq)
      ·rw[Yb _ hq];exact a9 hq e0
     have hl:=b0.len;exact⟨hP.1,hP.2,af,af,af,by rw[b0.size,a4];exact AJ.size,by rw[b0.tries,a5];exact AJ.tries,by rw[b0.gap,a6];exact AJ.gap,by rw[b0.dh,a7];exact AJ.dh,by rw[b0.want,a8];exact AJ.want⟩
theorem RB.open (size:Nat)(want:List (List UInt8))(w t n g:Nat)(hs:size≤4000)(ht:t≤4)(hn:n≤20)(hg:g≤32)(hw:want.length≤1000000000):RB 1 (qJ size want w t n g):=by
 unfold qJ;split
 ·exact⟨aM _,fun s hs=>by simp at hs,aM _,aM _,aM _,hs,ht,hg,hn,hw⟩
 ·have h0:RB 0 {size:=size,want:=want,win:=w,tries:=t,dh:=n,gap:=g,pieces:=[{kind:=0,place:=size-6,length:=6}]}:=⟨aj,fun s hs'=>by
   simp only[List.map_cons,List.map_nil,aZ]at hs';subst hs';exact⟨by show 6≤5000;omega,aM _,by show size-6≤5000;omega⟩,aK _,aK _,aK _,hs,ht,hg,hn,hw⟩
  obtain⟨b0,b1,b2,b3,-⟩:=EY {size:=size,want:=want,win:=w,tries:=t,dh:=n,gap:=g,pieces:=[{kind:=0,place:=size-6,length:=6}]};exact h0.kin b0 b1 (by rw[b2];exact aM _) (by rw[b3];exact aM _)
end Pl
structure Pr where
 X:Nat
 P:Nat
 Y:Nat
 cx:bU
 cy:bU
 m:Pl.Sc
 r:Pl.cO
 file:ByteArray
structure iC (O:ig)(w:World)(i:Nat)(p:Pr)(N:Nat):Prop where
 x:XG p.cx w p.X p.P p.m N
 y:l6 p.cy w p.Y p.r
 sO:gB p.m p.r
 ids:fQ p.m
 rb:Pl.RB N p.r
 ox:∀b,p.cx b≠.out→O b=.x i
 oy:∀b,p.cy b≠.out→O b=.y i
 file:p.file.size≤1000000000
section
variable{O O':ig}{w w' w1 w2:World}{i:Nat}{p:Pr}{N:Nat}
theorem iC.kept {S:Nat→Prop}(h:iC O w i p N)(k:Kp S w w')(hS:∀b,S b→O b≠.x i∧O b≠.y i)(ho:∀b,O b=.x i∨O b=.y i→O' b=O b):iC O' w' i p N:=by
 have hX:∀b,S b→p.cx b=.out:=fun b hb=>Classical.byContradiction fun e=>(hS b hb).1 (h.ox b e)
 have hY:∀b,S b→p.cy b=.out:=fun b hb=>Classical.byContradiction fun e=>(hS b hb).2 (h.oy b e)
 exact⟨⟨h.x.1.kept k hX,h.x.2⟩,h.y.kept k hY,h.sO,h.ids,h.rb,fun b hb=>by have:=h.ox b hb;rw[ho b (.inl this)];exact this,fun b hb=>by have:=h.oy b hb;rw[ho b (.inr this)];exact this,h.file⟩
theorem iC.ext (h:iC O w i p N)(k:Ext w w'):iC O w' i p N:=h.kept k (fun _ f=>f.elim) (fun _ _=>rfl)
theorem iC.mono {M:Nat}(h:iC O w i p N)(hM:N≤M)(hg:Good p.m M):iC O w i p M:=⟨⟨h.x.1,hg⟩,h.y,h.sO,h.ids,h.rb.mono hM,h.ox,h.oy,h.file⟩
theorem iC.y1 {mD:bU}(h:iC O w i p N)(wx:cu p.cx w w1 mD):l6 p.cy w1 p.Y p.r:=
 h.y.kept wx.kept (fun b hb=>Classical.byContradiction fun e=>by have:=h.ox b hb;rw[h.oy b e]at this;cases this)
def wZ (O:ig)(w:World)(mD lH:bU)(i:Nat):ig:=fun b=>if b<w.heap.size then O b else if mD b≠.out then .x i else if lH b≠.out then .y i else .no
theorem iC.step {mD lH:bU}{m':Pl.Sc}{r':Pl.cO}{M:Nat}(h:iC O w i p N)(hx:XG mD w1 p.X p.P m' M)(wx:cu p.cx w w1 mD)(hy:l6 lH w2 p.Y r')(wy:cu p.cy w1 w2 lH)(hs:gB m' r')(hi:fQ m')(hr:Pl.RB M r')(_ht:∀b,w.heap.size≤b→O b=.no)(hxt:∀b,w1.heap.size≤b→mD b=.out):
 iC (wZ O w mD lH i) w2 i {p with cx:=mD,cy:=lH,m:=m',r:=r'} M∧Kp (fun b=>O b=.x i∨O b=.y i) w w2∧(∀b,b<w.heap.size→wZ O w mD lH i b=O b)∧∀b,w2.heap.size≤b→wZ O w mD lH i b=.no:=by
 have z1:=wx.kept.size;have z2:=wy.kept.size;have hyt:=h.y.top;have hold:∀b,b<w.heap.size→wZ O w mD lH i b=O b:=fun b hb=>by unfold wZ;rw[if_pos hb]
 have hcx:∀b,p.cy b≠.out→mD b=.out:=fun b hb=>by
  have hlt:b<w.heap.size:=Classical.byContradiction fun e=>hb (hyt b af)
  rw[wx.same b hlt];exact Classical.byContradiction fun e=>by have:=h.ox b e;rw[h.oy b hb]at this;cases this
 refine⟨⟨⟨hx.1.kept wy.kept hcx,hx.2⟩,hy,hs,hi,hr,fun b hb=>?_,fun b hb=>?_,h.file⟩,(wx.kept.mono (S':=fun b=>O b=.x i∨O b=.y i) (fun b _ e=>.inl (h.ox b e))).then wy.kept (fun b _ e=>.inr (h.oy b e)),hold,fun b hb=>?_⟩
 ·show wZ O w mD lH i b=.x i;by_cases hlt:b<w.heap.size
  ·rw[hold b hlt];refine h.ox b ?_;rw[←wx.same b hlt];exact hb
  ·unfold wZ;rw[if_neg hlt,if_pos hb]
 ·show wZ O w mD lH i b=.y i;by_cases hlt:b<w.heap.size
  ·rw[hold b hlt];refine h.oy b ?_;rw[←wy.same b af];exact hb
  ·have hb1:w1.heap.size≤b:=Classical.byContradiction fun e=>hb (by
    show lH b=.out;rw[wy.same b af];exact hyt b af)
   unfold wZ;rw[if_neg hlt,if_neg (fun e=>e (hxt b hb1)),if_pos hb]
 ·unfold wZ;have h1:mD b=.out:=hxt b af;have h2:lH b=.out:=hy.top b hb;rw[if_neg af,if_neg (fun e=>e h1),if_neg (fun e=>e h2)]
end
def dR (p:Pr):List Value:=[PtrTo p.X 0,PtrTo p.Y 0,.string p.file]
structure kg (O:ig)(w:World)(Wb:Nat)(tv iv av rv:Value)(ps:List Pr)(li:List KI)(la:List KA)(lr:List KR)(N:Nat):Prop where
 k:rO O w Wb tv iv av rv li la lr
 tw:Own w 3 tv ps.length (ps.flatMap dR)
 GV:∀g,tv.ownBlock=some g→O g=.tv
 sV:∀(i:Nat)p,ps[i]?=some p→iC O w i p N
section
variable{O O':ig}{w w':World}{Wb:Nat}{tv iv av rv:Value}{ps:List Pr}{li:List KI}{la:List KA}{lr:List KR}{N:Nat}
theorem kg.ext (h:kg O w Wb tv iv av rv ps li la lr N)(k:Ext w w'):kg O w' Wb tv iv av rv ps li la lr N:=
 ⟨h.k.ext k,h.tw.ext k,h.GV,fun i p hp=>(h.sV i p hp).ext k⟩
theorem kg.keeps {sU eZ rv':Value}{vv:List KI}{la':List KA}{Eo:List KR}(h:kg O w Wb tv iv av rv ps li la lr N)(hk:rO O' w' Wb tv sU eZ rv' vv la' Eo)(kp:Kp (fun b=>O b=.wb∨O b=.iv∨O b=.av∨O b=.rv∨O b=.no) w w')(ho:∀b,b<w.heap.size→O b≠.no→O' b=O b):kg O' w' Wb tv sU eZ rv' ps vv la' Eo N:=by
 have hlt:∀b,O b≠.no→b<w.heap.size:=fun b hb=>Classical.byContradiction fun e=>hb (h.k.top b af)
 have hno:∀c,c≠.wb→c≠.iv→c≠.av→c≠.rv→c≠.no→∀b,O b=c→¬(O b=.wb∨O b=.iv∨O b=.av∨O b=.rv∨O b=.no):=fun c h1 h2 h3 h4 h5 b hb e=>by
  rw[hb]at e;rcases e with e|e|e|e|e
  ·exact h1 e
  ·exact h2 e
  ·exact h3 e
  ·exact h4 e
  ·exact h5 e
 refine⟨hk,h.tw.kept kp (fun g hg=>hno _ aj aj aj aj aj g (h.GV g hg)),fun g hg=>?_,fun i p hp=>(h.sV i p hp).kept kp (fun b hb=>⟨fun e=>hno _ aj aj aj aj aj b e hb,fun e=>hno _ aj aj aj aj aj b e hb⟩) (fun b hb=>?_)⟩
 ·have e:=h.GV g hg;rw[ho g (hlt g (by rw[e];simp)) (by rw[e];simp),e]
 ·have hb':O b≠.no:=fun e=>by rcases hb with hb|hb<;>rw[hb]at e<;>cases e
  exact ho b (hlt b hb') hb'
theorem kg.step {M i:Nat}{p p':Pr}(h:kg O w Wb tv iv av rv ps li la lr N)(hi:ps[i]?=some p)(hc:dR p'=dR p)(hp:iC O' w' i p' M)(kp:Kp (fun b=>O b=.x i∨O b=.y i) w w')(ho:∀b,b<w.heap.size→O' b=O b)(ht:∀b,w'.heap.size≤b→O' b=.no)(hM:N≤M)(hg:∀(j:Nat)q,ps[j]?=some q→Good q.m M):kg O' w' Wb tv iv av rv (ps.set i p') li la lr M:=by
 have hlt:∀b,O b≠.no→b<w.heap.size:=fun b hb=>Classical.byContradiction fun e=>hb (h.k.top b af)
 have hil:i<ps.length:=(aL.1 hi).1;have hn:∀b c,O b=c→c≠.no→O' b=c:=fun b c hb hc=>by rw[ho b (hlt b (by rw[hb];exact hc)),hb]
 refine⟨h.k.other kp (fun b hb=>?_) (fun b hb=>.inl (ho b hb)) ht hn,?_,fun g hg'=>hn _ _ (h.GV g hg') aj,fun j q hq=>?_⟩
 ·rcases hb with e|e<;>rw[e]<;>simp
 ·have e:(ps.set i p').flatMap dR=ps.flatMap dR:=by
   have hpe:ps[i]=p:=(aL.1 hi).2;apply List.ext_getElem?;intro n;have key:∀l:List Pr,l.flatMap dR=(l.map dR).flatten:=fun l=>rfl
   rw[key,key];have:(ps.set i p').map dR=ps.map dR:=by
    rw[List.map_set,hc];apply List.ext_getElem?;intro k;by_cases hk:i=k
    ·subst hk;rw[List.getElem?_set_self (by simpa using hil),aN,hi];rfl
    ·rw[List.getElem?_set_ne hk]
   rw[this]
  rw[List.length_set,e];exact h.tw.kept kp (fun g hg' e=>by rcases e with e|e<;>rw[h.GV g hg']at e<;>cases e)
 ·by_cases hj:i=j
  ·subst hj;rw[List.getElem?_set_self hil]at hq;cases hq;exact hp
  ·rw[List.getElem?_set_ne hj]at hq;refine(((h.sV j q hq).mono hM (hg j q hq))).kept kp (fun b hb=>?_) (fun b hb=>?_)
   ·rcases hb with e|e<;>rw[e]<;>simp<;>exact hj
   ·have hb':O b≠.no:=fun e=>by rcases hb with hb|hb<;>rw[hb]at e<;>cases e
    exact ho b (hlt b hb')
end
def Qf (w:World)(g i:Nat):Bool:=match w.cell? ⟨g,i*9+6,none⟩with
 |some (.int _ v)=>decide (0<v)
 |_=>false
def Cs (g n:Nat)(w:World):Nat:=((List.range n).filter (Qf w g)).length
theorem NP {α:Type}(l:List α)(f:α→Bool)(h:Nat→Bool)(he:∀i(hi:i<l.length),h i=f l[i]):((List.range l.length).filter h).length=(l.filter f).length:=by
 have e1:∀l:List α,(l.filter f).length=((l.map f).filter fun b=>b).length:=fun l=>by
  induction l with
  |nil=>rfl
  |cons x l ih=>rw[List.map_cons,List.filter_cons,List.filter_cons];by_cases hx:f x=true<;>simp[hx,ih]
 have e2:((List.range l.length).filter h).length=(((List.range l.length).map h).filter fun b=>b).length:=by
  induction List.range l.length with
  |nil=>rfl
  |cons x l ih=>rw[List.map_cons,List.filter_cons,List.filter_cons];by_cases hx:h x=true<;>simp[hx,ih]
 rw[e1,e2]
 congr 2
 apply List.ext_getElem?;intro i;rw[aN,aN];by_cases hi:i<l.length
 ·rw[List.getElem?_range hi,ay hi];simp[he i hi]
 ·rw[bn (by simp;omega),bn af];rfl
theorem dK.Cs {col:bU}{w:World}{Y g cap n:Nat}{r:Pl.cO}{bJ:List Value}{nv rv tv:Value}(h:dK col w Y r bJ nv (.slice (some ⟨g,0,none⟩) n cap) rv tv)(hn:n=r.pieces.length):Go.Proofs.YthicgffppmbamaaGreat.Cs g n w=(r.pieces.filter fun p=>decide (0<p.due)).length:=by
 subst hn;unfold Go.Proofs.YthicgffppmbamaaGreat.Cs;refine NP r.pieces _ _ (fun i hi=>?_);obtain⟨x,hx,hcell⟩:=h.piece i hi;have d6:=hcell 6 af;simp only[dx,I,au]at d6;unfold Qf;rw[d6];simp
theorem VD {r:Pl.cO}{i:Nat}(hi:i<r.pieces.length)(hd:0<r.pieces[i].due):((Pl.fB r i).pieces.filter fun p=>decide (0<p.due)).length+1=(r.pieces.filter fun p=>decide (0<p.due)).length:=by
 have key:∀(l:List Pl.bQ)(i:Nat)(hi:i<l.length)(f:Pl.bQ→Pl.bQ),0<l[i].due→(f l[i]).due=0→((l.modify i f).filter fun p=>decide (0<p.due)).length+1=(l.filter fun p=>decide (0<p.due)).length:=by
  intro l;induction l with
  |nil=>intro i hi;simp at hi
  |cons a l ih=>
   intro i hi f h1 h2;cases i with
   |zero=>
    rw[List.modify_zero_cons,List.filter_cons,List.filter_cons,if_neg (by rw[show(f a).due=0 from h2];simp),if_pos (aH (show 0<a.due from h1))];rfl
   |succ i=>
    have:=ih i (by simpa using hi) f h1 h2;rw[List.modify_succ_cons,List.filter_cons,List.filter_cons];by_cases ha:0<a.due<;>simp[ha]<;>omega
 exact key r.pieces i hi _ hd rfl
def zH (pa:Option Addr)(n:Nat)(w:World):Nat:=match pa with
 |some a=>Cs a.block n w
 |none=>0
theorem dK.zH {col:bU}{w:World}{Y cap n:Nat}{pa:Option Addr}{r:Pl.cO}{bJ:List Value}{nv rv tv:Value}(h:dK col w Y r bJ nv (.slice pa n cap) rv tv)(hn:r.pieces.length=n):Go.Proofs.YthicgffppmbamaaGreat.zH pa n w=(r.pieces.filter fun p=>decide (0<p.due)).length:=by
 by_cases h0:0<n
 ·obtain⟨g,cap',he,_⟩:=h.inn.pieces.at af;simp only[Value.slice.injEq]at he;obtain⟨rfl,-,rfl⟩:=he;exact h.Cs hn.symm
 ·have e0:r.pieces=[]:=aT af;obtain rfl:n=0:=af;rw[e0];unfold Go.Proofs.YthicgffppmbamaaGreat.zH;cases pa<;>rfl
theorem VE (col:bU)(w:World)(Y:Nat)(r:Pl.cO)(bJ:List Value)(nv pv rv tv:Value)(h:dK col w Y r bJ nv pv rv tv)(hpl:r.pieces.length≤1000)(hb:r.now≤1000000000000∧r.made≤1000000000000):
 Calls Tryz.prog 37 #[PtrTo Y 0] w fun e w'=>e=.returned (.tuple #[])∧dK col w' Y (Pl.lG r) bJ nv pv rv tv∧Kp (Mine col) w w':=by
 have c6:=h.blk.cell 6;have c9:=h.blk.cell 9;have f9:=h.blk.free 9;simp only[dm,I,au]at c6 c9;by_cases hst:r.state=0
 ·have LB:(r.state:Int)=0:=af;have HR:Hid (Pl.lG r=Pl.jh r.pieces.length {r with now:=r.now+1}):=by show _=_;unfold Pl.lG;rw[if_pos hst]
  have h1:=h.p8 9 (.int .i64 ((r.now:Int)+1)) (r':={r with now:=r.now+1}) (by simp[dm,I]) ⟨h.inn.gP,h.inn.top,h.inn.names,h.inn.iA,h.inn.pieces,h.inn.cB,h.inn.parts,h.inn.rows,h.inn.there⟩;have k1:=h.p9 9 (.int .i64 ((r.now:Int)+1));obtain⟨pa,pc,rfl,hpc⟩:=h.inn.pieces.shape;generalize hL:r.pieces.length=L at*;have HL:=hide hL;have HH:=hide (And.intro h1 k1);clear h1 k1 hL;go_enter Tryz.func37,Tryz.ntmps37
  go_wp2_with fail
  generalize w.setCell ⟨Y,9,none⟩ (.int .i64 ((r.now:Int)+1))=W1 at*;go_loopw [2] (fun _ wr=>∃(r':Pl.cO)(f:Nat),dK col wr Y r' bJ nv (.slice pa L pc) rv tv∧Kp (Mine col) w wr∧Hid (Pl.jh f r'=Pl.lG r)∧Hid (r'.pieces.length=L)∧r'.made+(r'.pieces.filter fun p=>decide (0<p.due)).length≤r.made+L∧(r'.pieces.filter fun p=>decide (0<p.due)).length≤f∧r'.now≤1000000000001) (fun _ wr=>zH pa L wr)
  case atStart=>exact⟨_,L,HH.out.1,HH.out.2,by show _=_;exact HR.out.symm,HL,by
   have:(r.pieces.filter fun p=>decide (0<p.due)).length≤r.pieces.length:=List.length_filter_le _ _;rw[HL.out]at this;show r.made+(r.pieces.filter fun p=>decide (0<p.due)).length≤_;omega,by
   have:(r.pieces.filter fun p=>decide (0<p.due)).length≤r.pieces.length:=List.length_filter_le _ _;rw[HL.out]at this;exact this,by show r.now+1≤_;omega⟩
  case round=>
   obtain⟨r',f,hR,hK,HF,NQ,hmd,hcf,hnw⟩:=hrel;clear c6 c9 f9 h HH
   go_wp2_with fail
   go_loopw [2,3] (fun av i wq=>∃k:Nat,i=.int .i64 k∧k≤L∧av=.int .i64 (pE (Pl.iP r'.now r'.pieces k))∧Ext wr wq) (fun _ i _=>L-(intOf i).toNat)
   case atStart=>exact⟨0,rfl,af,rfl,Kp.refl _ _⟩
   case round=>
    obtain⟨k,rfl,hk,rfl,hx⟩:=hrel;have qj:=hR.ext hx;have c7:=qj.blk.cell 7;have c9:=qj.blk.cell 9;simp only[dm,I,au]at c7 c9;by_cases hkl:k<L
    ·have k1:(k:Int)<(L:Int):=af;have k0:(0:Int)≤(k:Int):=af;have Yl:k<r'.pieces.length:=by rw[NQ.out];exact hkl
     obtain⟨g,cap,he,-,-,-⟩:=qj.inn.pieces.at af;simp only[Value.slice.injEq]at he;obtain⟨rfl,hLL,rfl⟩:=he;clear hLL;obtain⟨x,hxx,hcell⟩:=qj.piece k Yl;have hgd:r'.pieces.getD k default=r'.pieces[k]:=by rw[aC,ay Yl];rfl
     have HST:Hid (Pl.iP r'.now r'.pieces (k+1)=match Pl.iP r'.now r'.pieces k with
      |none=>if Pl.nu r'.now r'.pieces[k]=true then some k else none
      |some a=>if Pl.nu r'.now r'.pieces[k]=true∧r'.pieces[k].turn<(r'.pieces.getD a default).turn then some k else some a):=by
      show _=_
      conv=>lhs;unfold Pl.iP
      rw[hgd];rfl
     have ajq:=Pl.nu r'.now r'.pieces[k];have GX:Hid (Pl.nu r'.now r'.pieces[k]=true↔0<r'.pieces[k].due∧r'.pieces[k].due≤r'.now):=by
      show _↔_;unfold Pl.nu;simp
     obtain⟨p,hp⟩:∃p,p=r'.pieces[k]:=⟨_,rfl⟩
     rw[←hp]at hcell;rw[←hp]at HST GX;have HP:=hide hp;clear hp hgd ajq;have d0:=hcell 0 af;have d1:=hcell 1 af;have d2:=hcell 2 af;have d3:=hcell 3 af;have d4:=hcell 4 af;have d5:=hcell 5 af;have d6:=hcell 6 af;have d7:=hcell 7 af;have d8:=hcell 8 af;simp only[dx,I,tx,au,Nat.add_zero]at d0 d1 d2 d3 d4 d5 d6 d7 d8;obtain⟨xo,xn,xc,rfl⟩:∃xo xn xc,x=.slice xo xn xc:=by
      obtain⟨_,ao,cap',e,_⟩:=qj.inn.parts k x p hxx (by rw[ay Yl,HP.out]);exact⟨_,_,_,e⟩
     clear hcell hxx;have xA:Ext wr (wr.alloc (.cells #[.int .i64 p.kind,.int .i64 p.place,.int .i64 p.length,.string ⟨p.got.toArray⟩,.int .i64 p.failed,.int .i64 p.id,.int .i64 p.due,.int .i64 p.turn,.slice xo xn xc] 121)):=ax.alloc _;have bA:=bK.bO wr [.int .i64 p.kind,.int .i64 p.place,.int .i64 p.length,.string ⟨p.got.toArray⟩,.int .i64 p.failed,.int .i64 p.id,.int .i64 p.due,.int .i64 p.turn,.slice xo xn xc] 121
     go_upto_region 7 with fail
     have q6:=bA.cell 6;have q7:=bA.cell 7;simp only[au]at q6 q7;have e7:=xA.cell c7 id;have e9:=xA.cell c9 id;clear d0 d1 d2 d3 d4 d5 d6 d7 d8 c7 c9;have MF:=qj.ext xA;generalize wr.alloc (.cells #[.int .i64 p.kind,.int .i64 p.place,.int .i64 p.length,.string ⟨p.got.toArray⟩,.int .i64 p.failed,.int .i64 p.id,.int .i64 p.due,.int .i64 p.turn,.slice xo xn xc] 121)=WA at*;by_cases hd0:0<p.due
     ·have b1:(0:Int)<(p.due:Int):=af;have g1:decide ((0:Int)<(p.due:Int))=true:=aH b1;by_cases hd1:p.due≤r'.now
      ·have b2:(p.due:Int)≤(r'.now:Int):=af;have g2:decide ((p.due:Int)≤(r'.now:Int))=true:=aH b2;have zI:Pl.nu r'.now p=true:=GX.out.2 ⟨hd0,hd1⟩;cases ha:Pl.iP r'.now r'.pieces k with
       |none=>
        have HE:Hid (Pl.iP r'.now r'.pieces (k+1)=some k):=by
         show _=_;rw[HST.out,ha];simp only;rw[if_pos zI]
        clear HST GX ha zI;rw[show pE none=-1 from rfl];have b3:decide ((-1:Int)<0)=true:=by decide
        go_quiet (fail);have xQ:Ext WA (WA.drewN nq):=ax.drewN nq;have xO:=(hx.trans xA).trans xQ;clear e7 e9 q6 q7;generalize WA.drewN nq=WQ at*
        go_wp2_with fail
        go_roundw
        case rel=>exact⟨k+1,by go_num,af,by rw[HE.out];rfl,xO⟩
        case measure=>simp[intOf];omega
       |some b=>
        obtain⟨hbk,-,-⟩:=qG ha;have hbl:b<r'.pieces.length:=af;obtain⟨xb,-,hcb⟩:=MF.piece b hbl;have t7:=hcb 7 af;simp only[dx,I,au]at t7;have hgb:r'.pieces.getD b default=r'.pieces[b]:=by rw[aC,ay hbl];rfl
        rw[show pE (some b)=(b:Int)from rfl];have b3:¬(b:Int)<0:=af;have g3:decide ((b:Int)<0)=false:=aG b3;have bb0:(0:Int)≤(b:Int):=af;have bb1:(b:Int)<(L:Int):=af;have HGB:=hide hgb;clear hcb hgb;generalize hTB:r'.pieces[b].turn=tb at*;have HTB:=hide hTB;clear hTB;by_cases htt:p.turn<tb
        ·have b4:(p.turn:Int)<(tb:Int):=af;have g4:decide ((p.turn:Int)<(tb:Int))=true:=aH b4;have HE:Hid (Pl.iP r'.now r'.pieces (k+1)=some k):=by
          show _=_;rw[HST.out,ha];simp only;rw[HGB.out,HTB.out,if_pos ⟨zI,htt⟩]
         clear HST GX ha zI;go_quiet (fail);have xQ:Ext WA (WA.drewN nq):=ax.drewN nq;have xO:=(hx.trans xA).trans xQ;clear e7 e9 q6 q7;generalize WA.drewN nq=WQ at*
         go_wp2_with fail
         go_roundw
         case rel=>exact⟨k+1,by go_num,af,by rw[HE.out];rfl,xO⟩
         case measure=>simp[intOf];omega
        ·have b4:¬(p.turn:Int)<(tb:Int):=af;have g4:decide ((p.turn:Int)<(tb:Int))=false:=aG b4;have HE:Hid (Pl.iP r'.now r'.pieces (k+1)=some b):=by
          show _=_;rw[HST.out,ha];simp only;rw[HGB.out,HTB.out,if_neg (fun e=>htt e.2)]
         clear HST GX ha zI;go_quiet (fail);have xQ:Ext WA (WA.drewN nq):=ax.drewN nq;have xO:=(hx.trans xA).trans xQ;clear e7 e9 q6 q7;generalize WA.drewN nq=WQ at*
         go_wp2_with fail
         go_roundw
         case rel=>exact⟨k+1,by go_num,af,by rw[HE.out];rfl,xO⟩
         case measure=>simp[intOf];omega
      ·have b2:¬(p.due:Int)≤(r'.now:Int):=af;have g2:decide ((p.due:Int)≤(r'.now:Int))=false:=aG b2;have zI:¬Pl.nu r'.now p=true:=fun e=>hd1 (GX.out.1 e).2
       have HE:Hid (Pl.iP r'.now r'.pieces (k+1)=Pl.iP r'.now r'.pieces k):=by
        show _=_;rw[HST.out];cases Pl.iP r'.now r'.pieces k with
        |none=>simp only;rw[if_neg zI]
        |some a=>simp only;rw[if_neg (fun e=>zI e.1)]
       clear HST GX zI;go_quiet (fail);have xQ:Ext WA (WA.drewN nq):=ax.drewN nq;have xO:=(hx.trans xA).trans xQ;clear e7 e9 q6 q7;generalize WA.drewN nq=WQ at*
       go_wp2_with fail
       go_roundw
       case rel=>exact⟨k+1,by go_num,af,by rw[HE.out],xO⟩
       case measure=>simp[intOf];omega
     ·have b1:¬(0:Int)<(p.due:Int):=af;have g1:decide ((0:Int)<(p.due:Int))=false:=aG b1;have zI:¬Pl.nu r'.now p=true:=fun e=>hd0 (GX.out.1 e).1
      have HE:Hid (Pl.iP r'.now r'.pieces (k+1)=Pl.iP r'.now r'.pieces k):=by
       show _=_;rw[HST.out];cases Pl.iP r'.now r'.pieces k with
       |none=>simp only;rw[if_neg zI]
       |some a=>simp only;rw[if_neg (fun e=>zI e.1)]
      clear HST GX zI;go_quiet (fail);have xQ:Ext WA (WA.drewN nq):=ax.drewN nq;have xO:=(hx.trans xA).trans xQ;clear e7 e9 q6 q7;generalize WA.drewN nq=WQ at*
      go_wp2_with fail
      go_roundw
      case rel=>exact⟨k+1,by go_num,af,by rw[HE.out],xO⟩
      case measure=>simp[intOf];omega
    ·obtain rfl:k=L:=af;have k1:¬(k:Int)<(k:Int):=af;have Si:Pl.Hw r'=Pl.iP r'.now r'.pieces k:=by unfold Pl.Hw;rw[NQ.out]
     cases ha:Pl.iP r'.now r'.pieces k with
     |none=>
      have HE:Hid (Pl.lG r=r'):=by
       show _=_;rw[←HF.out];cases f with
       |zero=>rfl
       |succ f=>unfold Pl.jh;rw[Si,ha]
      rw[show pE none=-1 from rfl];have b3:decide ((-1:Int)<0)=true:=by decide
      clear HF Si ha
      go_wp2_with fail
      refine bodyPost_ret (results_none rfl _ _ _) rfl ?_;rw[HE.out];exact⟨rfl,qj,hK.trans (Kp.cZ hx)⟩
     |some b=>
      obtain⟨hbk,hdb,-⟩:=qG ha;have hbl:b<r'.pieces.length:=by rw[NQ.out];omega
      have hgb:r'.pieces.getD b default=r'.pieces[b]:=by rw[aC,ay hbl];rfl
      rw[hgb,yA]at hdb;have hless:=VD hbl hdb.1;obtain⟨f,rfl⟩:∃g,f=g+1:=⟨f-1,af⟩
      have HE:Hid (Pl.jh f (Pl.fB r' b)=Pl.lG r):=by
       show _=_;rw[←HF.out]
       conv=>rhs;unfold Pl.jh
       rw[Si,ha]
      rw[show pE (some b)=(b:Int)from rfl];have b3:¬(b:Int)<0:=af;have HM:=hide (Bu col wr Y r' b bJ nv _ rv tv qj hbl af (by rw[NQ.out];omega));have HLs:=hide hless;clear HF Si ha hdb hgb hless
      go_wp2_with fail
      refine(bH HM).mono ?_;rintro e w2 ⟨rfl,h2,k2,z2⟩
      go_wp2_with fail
      go_roundw
      case rel=>exact⟨Pl.fB r' b,f,h2,(hK.trans (Kp.cZ hx)).trans k2,HE,by show _=_;rw[Pl.zT];exact NQ.out,by have:=HLs.out;show r'.made+1+_≤_;omega,by have:=HLs.out;omega,hnw⟩
      case measure=>
       rw[h2.zH (by rw[Pl.zT];exact NQ.out),hR.zH NQ.out];have:=HLs.out;omega
 ·have LB:¬(r.state:Int)=0:=af;have HR:Hid (Pl.lG r=r):=by show _=_;unfold Pl.lG;rw[if_neg hst]
  go_enter Tryz.func37,Tryz.ntmps37
  go_wp2_with fail
  refine bodyPost_ret (results_none rfl _ _ _) rfl ?_;rw[HR.out];exact⟨rfl,h,Kp.refl _ _⟩
end Go.Proofs.YthicgffppmbamaaGreat
