import Derived.Deep.Slices
import Derived.SizedLaws
import Derived.ProofKit
import Derived.OrdersHeld
import Derived.StillTail
import Derived.Deep.MidRow
import Derived.Lib.SlBytesConst
import Derived.Test.YthicgffppmbamaaGreatP2
import Derived.Test.YthicgffppmbamaaGreatP3
set_option maxRecDepth 100000
set_option maxHeartbeats 16000000
namespace Go.Proofs.YthicgffppmbamaaGreat
open Go.RowKit
section
open Go.ChangeShapes Go.WideShapes Go.Deep
section
variable{H:Type}{enc:TypeId×Value→H}{W:World}
def iG (t:TypeId)(d:DataW H):Prop:=∀n∈d.weights Tryz.prog t,n≤reachBytes
theorem Hg {e:TypeId}{l:List (DataW H)}{d:DataW H}(h:d∈l){n:Nat}(hn:n∈d.weights Tryz.prog e):n∈DataW.weightsAll Tryz.prog e l:=by
 induction l with
 |nil=>cases h
 |cons x r ih=>
  simp only[DataW.weightsAll,aI];cases List.mem_cons.1 h with
  |inl e=>subst e;exact .inl hn
  |inr e=>exact .inr (ih e)
theorem iG.slice {t e:TypeId}{elems spare:List (DataW H)}(hu:Tryz.prog.underlying t=some (.slice e))(h:iG t (.slice elems spare)):(elems.length+spare.length)*Tryz.prog.bytesOf e≤reachBytes∧∀d∈elems,iG e d:=by
 refine⟨h _ (by simp[DataW.weights,hu]),fun d hd n hn=>h n ?_⟩;simp only[DataW.weights,hu,List.mem_cons,aI];exact .inr (.inl (Hg hd hn))
theorem CS {t e:TypeId}{bytes:Nat}(ht:Tryz.prog.underlying t=some (.slice e))(hc:Tryz.prog.cellsOf e=1)(hb:Tryz.prog.bytesOf e=bytes)(SN:8≤bytes){fuel:Nat}{v:Value}{d:DataW H}{pl:List MemPlace}
 (h:DataW.trod enc Tryz.prog W 0 (fun _=>true) true fuel t [v]=some (d,pl))(hf:iG t d):
 ∃vs:List Value,Rd W.heap.size W v vs∧vs.length*bytes≤reachBytes∧∃n,∀u∈vs,∃x:DataW H×List MemPlace,DataW.trod enc Tryz.prog W 0 (fun _=>true) true n e [u]=some x∧iG e x.1:=by
 rcases open_slice1 ht hc h with⟨hcs,_⟩|⟨a,len,cap,m,n,V,D,Pl,hcs,_,hl,_,hm,hx,he⟩
 ·simp only[List.cons.injEq,and_true]at hcs;subst hcs;exact⟨[],⟨none,0,rfl,aK _,aM _,fun h=>absurd h aj⟩,aj,0,fun u hu=>by cases hu⟩
 ·simp only[List.cons.injEq,and_true]at hcs;subst hcs;simp only[if_true]at hm;rw[hm]at hx he;clear hm;simp only[Prod.mk.injEq]at hx;obtain⟨rfl,_⟩:=hx;have hsz:=hf.slice ht;simp only[aQ,List.length_range,hb]at hsz;have hcap:cap*bytes≤reachBytes:=by have:=hsz.1;rwa[show len+(cap-len)=cap from af]at this
  have hcap2:cap≤17592186044416:=by
   have h1:cap*8≤cap*bytes:=Nat.mul_le_mul_left _ SN;have:reachBytes=140737488351232:=rfl;omega
  refine⟨(List.range len).map V,⟨some a,cap,aj,by simpa using hl,by simp only[aQ,List.length_range];omega,fun hp=>?_⟩,?_,n,fun u hu=>?_⟩
  ·simp only[aQ,List.length_range]at hp;have h0:=(he 0 af).1;obtain⟨b,off,spot⟩:=a;have hspot:spot=none:=by
    have:=World.cell?_spot h0;simpa[Addr.add]using this
   subst hspot;refine⟨b,off,rfl,?_,fun j hj=>?_⟩
   ·have:=World.block_lt_of_cell? _ _ h0;simpa[Addr.add]using this
   ·simp only[aQ,List.length_range]at hj;have:=(he j af).1;rw[Addr.add_lit]at this;rw[this];simp[hj]
  ·simp only[aQ,List.length_range];exact aO (Nat.mul_le_mul_right _ hl) hcap
  ·obtain⟨i,hi,rfl⟩:=List.mem_map.1 hu;rw[List.mem_range]at hi;exact⟨_,(he i af).2,hsz.2 _ (List.mem_map.2 ⟨i,List.mem_range.2 hi,rfl⟩)⟩
theorem vU :reachBytes=140737488351232:=rfl
theorem aaV :Tryz.prog.bytesOf 3=8:=by kernel_rfl
theorem aaW :Tryz.prog.bytesOf 9=16:=by kernel_rfl
theorem ZY :Tryz.prog.bytesOf 46=24:=by kernel_rfl
theorem Z4 :Tryz.prog.bytesOf 51=24:=by kernel_rfl
theorem Z5 :Tryz.prog.bytesOf 42=48:=by kernel_rfl
theorem cells3 :Tryz.prog.cellsOf 3=1:=by kernel_rfl
theorem KT :Tryz.prog.cellsOf 9=1:=by kernel_rfl
theorem Z6 :Tryz.prog.cellsOf 46=1:=by kernel_rfl
theorem Z7 :Tryz.prog.cellsOf 51=1:=by kernel_rfl
theorem cells24 :Tryz.prog.cellsOf 22=1:=by kernel_rfl
theorem Pg :Tryz.prog.cellsOf 40=1:=by kernel_rfl
theorem Z8 :Tryz.prog.cellsOf 42=2:=by kernel_rfl
def strOf :Value→ByteArray
 |.string s=>s
 |_=>ByteArray.empty
theorem WJ {fuel:Nat}{v:Value}{d:DataW H}{pl:List MemPlace}(h:DataW.trod enc Tryz.prog W 0 (fun _=>true) true fuel 46 [v]=some (d,pl))(hf:iG 46 d):∃xs:List Int,jD W.heap.size W v xs∧xs.length≤17592186043904:=by
 obtain⟨vs,hr,hl,n,he⟩:=CS Tryz.underlying46 cells3 aaV af h hf;have e:vs=(vs.map intOf).map I:=by
  rw[List.map_map]
  conv=>lhs;rw[←List.map_id vs]
  refine List.map_congr_left (fun u hu=>?_);obtain⟨x,hx,_⟩:=he u hu;obtain⟨k,hk,_⟩:=DataW.trod_int Tryz.underlying3 hx;simp only[List.cons.injEq,and_true]at hk;subst hk;rfl
 refine⟨vs.map intOf,by unfold jD;rw[←e];exact hr,?_⟩;rw[aQ];rw[vU]at hl;omega
theorem Ep {fuel:Nat}{v:Value}{d:DataW H}{pl:List MemPlace}(h:DataW.trod enc Tryz.prog W 0 (fun _=>true) true fuel 22 [v]=some (d,pl))(hf:iG 22 d):∃ss:List ByteArray,h_ W.heap.size W v ss∧ss.length≤8796093021952:=by
 obtain⟨vs,hr,hl,n,he⟩:=CS Tryz.underlying22 KT aaW af h hf;have e:vs=(vs.map strOf).map Value.string:=by
  rw[List.map_map]
  conv=>lhs;rw[←List.map_id vs]
  refine List.map_congr_left (fun u hu=>?_);obtain⟨x,hx,_⟩:=he u hu;obtain⟨k,hk,_⟩:=DataW.trod_string Tryz.underlying9 hx;simp only[List.cons.injEq,and_true]at hk;subst hk;rfl
 refine⟨vs.map strOf,by unfold h_;rw[←e];exact hr,?_⟩;rw[aQ];rw[vU]at hl;omega
end
end
section
open Go.ChangeShapes Go.WideShapes Go.Deep
section
variable{H:Type}{enc:TypeId×Value→H}{W:World}
theorem uq {α β:Type}(Q:α→β→Prop)(vs:List α)(h:∀u∈vs,∃y,Q u y):∃ys:List β,vs.length=ys.length∧∀(i:Nat)(u:α)(y:β),vs[i]?=some u→ys[i]?=some y→Q u y:=by
 induction vs with
 |nil=>exact⟨[],rfl,fun i u y hu=>by simp at hu⟩
 |cons v r ih=>
  obtain⟨y0,h0⟩:=h v aj;obtain⟨ys,hl,hq⟩:=ih (fun u hu=>h u (by simp[hu]));refine⟨y0::ys,by simp[hl],fun i u y hu hy=>?_⟩;cases i with
  |zero=>simp at hu hy;subst hu;subst hy;exact h0
  |succ i=>simp at hu hy;exact hq i u y hu hy
theorem Fh {α β:Type}{Q:α→β→Prop}{vs:List α}{ys:List β}(hl:vs.length=ys.length)(hq:∀(i:Nat)(u:α)(y:β),vs[i]?=some u→ys[i]?=some y→Q u y):∀y∈ys,∃u,Q u y:=by
 intro y hy;obtain⟨i,hi⟩:=List.getElem?_of_mem hy;have hil:=(aL.1 hi).1;exact⟨vs[i]'af,hq i _ y (ay af) hi⟩
theorem SQ {fuel:Nat}{v:Value}{d:DataW H}{pl:List MemPlace}(h:DataW.trod enc Tryz.prog W 0 (fun _=>true) true fuel 51 [v]=some (d,pl))(hf:iG 51 d):∃g:List (List Int),ql W.heap.size W v g∧g.length≤5864062014634∧∀l∈g,l.length≤17592186043904:=by
 obtain⟨vs,hr,hl,n,he⟩:=CS Tryz.underlying51 Z6 ZY af h hf;obtain⟨g,hgl,hq⟩:=uq (fun u xs=>jD W.heap.size W u xs∧xs.length≤17592186043904) vs (fun u hu=>by
  obtain⟨x,hx,hfx⟩:=he u hu;exact WJ hx hfx)
 refine⟨g,⟨vs,hr,hgl,fun i x xs a b=>(hq i x xs a b).1⟩,?_,fun l hl'=>?_⟩
 ·rw[vU]at hl;omega
 ·obtain⟨u,hu⟩:=Fh hgl hq l hl';exact hu.2
theorem Fj {fuel:Nat}{v:Value}{d:DataW H}{pl:List MemPlace}(h:DataW.trod enc Tryz.prog W 0 (fun _=>true) true fuel 40 [v]=some (d,pl))(hf:iG 40 d):∃gs:List (List (List Int)),jy W.heap.size W v gs∧gs.length≤5864062014634∧∀g∈gs,g.length≤5864062014634∧∀l∈g,l.length≤17592186043904:=by
 obtain⟨vs,hr,hl,n,he⟩:=CS Tryz.underlying40 Z7 Z4 af h hf;obtain⟨g,hgl,hq⟩:=uq (fun u xs=>ql W.heap.size W u xs∧xs.length≤5864062014634∧∀l∈xs,l.length≤17592186043904) vs (fun u hu=>by
  obtain⟨x,hx,hfx⟩:=he u hu;exact SQ hx hfx)
 refine⟨g,⟨vs,hr,hgl,fun i x xs a b=>(hq i x xs a b).1⟩,?_,fun l hl'=>?_⟩
 ·rw[vU]at hl;omega
 ·obtain⟨u,hu⟩:=Fh hgl hq l hl';exact hu.2
end
end
section
variable{P:Program}{ops:Array Oper}{Q:Exit→Act→World→Prop}{md:Region.Mode}{S:World→Prop}
def eH (P:Program)(md:Region.Mode)(ops:Array Oper)(Q:Exit→Act→World→Prop)(S:World→Prop)(N:List Nat):Nat→Array Bool→Act→World→Prop
 |0,listed,a,w=>Region.ready md ops listed=[]∧Q .normal a w
 |f+1,listed,a,w=>(Region.ready md ops listed=[]→Q .normal a w)∧
  ∀i∈Region.ready md ops listed,wpOp P ops Q i (fun a' w'=>(i∉N→S w')∧eH P md ops Q S N f (listed.setIfInBounds i true) a' w') a w
theorem eH.any {N:List Nat}:∀(f:Nat)(listed:Array Bool)(a:Act)(w:World),eH P md ops Q S N f listed a w→wpAny P md ops Q f listed a w
 |0,_,_,_,h=>h
 |f+1,_,_,_,h=>⟨h.1,fun i hi=>wpOp_mono (fun _ _ h'=>eH.any f _ _ _ h'.2) (h.2 i hi)⟩
theorem H8 {l:Array Bool}{j:Nat}(h:l.getD j true=false):(l.setIfInBounds j true).getD j true=true:=by
 have hj:j<l.size:=by
  rcases Nat.lt_or_ge j l.size with h'|h'
  ·exact h'
  ·simp[Array.getD,Nat.not_lt.2 h']at h
 simp[Array.getD,hj]
theorem eH.first {N:List Nat}{i:Nat}{oi:Oper}{v:Value}(r:List Nat)(hi:ops[i]?=some oi)(hsel:∀(j:Nat)(o:Oper)cs b,ops[j]?=some o→o.op≠.select cs b)(hw:chained md ops i r=true)
 (hQ:∀c a w,Q (.panic c) (a.put oi.dst v) w→Q (.panic c) a w):∀(f:Nat)(listed:Array Bool)(a:Act)(w:World),
  (∀x∈r,listed.getD x true=false)→(∀n∈N,n∈r∨listed.getD n true=true)→
  (∀j oj,ops[j]?=some oj→j≠i→listed.getD j true=false→(∀e∈oj.after,Region.binds md e=true→e.on≠i)→oi.apart ops oj=true)→
  i∈Region.ready md ops listed→YieldsIf P ops S oi v a→S w→
  eH P md ops Q S N f (listed.setIfInBounds i true) (a.put oi.dst v) w→eH P md ops Q S N (f+1) listed a w:=by
 intro f;induction f with
 |zero=>
  intro listed a w _ _ _ hr hy hS H;refine⟨fun h=>absurd hr (by rw[h];simp),fun j hj=>?_⟩;by_cases hji:j=i
  ·subst hji;exact hy.wpOp hi hS ⟨fun _=>hS,H⟩
  ·have hm:=ready_mono hj hji;rw[H.1]at hm;cases hm
 |succ f ih=>
  intro listed a w hch hn hfree hr hy hS H;refine⟨fun h=>absurd hr (by rw[h];simp),fun j hj=>?_⟩;by_cases hji:j=i
  ·subst hji;exact hy.wpOp hi hS ⟨fun _=>hS,H⟩
  have hiu:listed.getD i true=false:=(mem_ready.1 hr).1;have hjr:∀x∈r,j≠x:=fun x hx e=>qo r i hw hiu hch x hx (e▸hj)
  have h1:=H.2 j (ready_mono hj hji);obtain⟨Dj,oj,hoj,hall⟩:=mem_ready.1 hj;have hjn:j∉N:=fun e=>(hn j e).elim (fun h=>hjr j h rfl) (fun h=>by rw[Dj]at h;cases h)
  have hnot:∀e∈oj.after,Region.binds md e=true→e.on≠i:=fun e he hb heq=>by
   have h2:=hall e he hb;rw[heq,getD_both hiu]at h2;cases h2
  have h2:=wpOp_putIf hoj (hfree j oj hoj hji Dj hnot) (fun cs b=>hsel i oi cs b hi) (fun cs b=>hsel j oj cs b hoj) hQ hy h1;refine wpOp_mono (fun a' w' h3=>⟨h3.2.1,ih (listed.setIfInBounds j true) a' w' (fun x hx=>by rw[getD_set_ne true (hjr x hx)];exact hch x hx) (fun n hn'=>(hn n hn').imp id (fun h=>(Decidable.em (j=n)).elim (fun e=>by subst e;exact H8 Dj) (fun e=>by rw[getD_set_ne true e];exact h))) (fun k ok hk hki hun hno=>hfree k ok hk hki ?_ hno) (ready_mono hr (Ne.symm hji)) h3.1 (h3.2.1 hjn) ?_⟩) h2
  ·by_cases hjk:j=k
   ·subst hjk;exact Dj
   ·rwa[getD_set_ne true hjk]at hun
  ·rw[Array.setIfInBounds_comm _ _ hji];exact h3.2.2
theorem eH.t {N:List Nat}{oi:Oper}{ro:List Oper}{v:Value}{f:Nat}{listed l':Array Bool}{a a':Act}{w:World}(i:Nat)(r:List Nat)(hi:ops.toList.drop i=oi::ro)(hS:S w)(h:eH P md ops Q S N f l' a' w)
 (hy:∀u,S u→(execOp a.eval oi).run P u=.ok (.value v) u:=by intro _ _;go_simp;first|done|with_reducible rfl)(hl':listed.setIfInBounds i true=l':=by(try simp only[lX]);exact rfl)(ha':a.put oi.dst v=a':=by(try simp only[lX]);exact rfl)
 (hs:Region.noSelect ops=true:=by kernel_rfl)(hw:chained md ops i r=true:=by kernel_rfl)(hn:N.all (fun n=>r.contains n||listed.getD n true)=true:=by kernel_rfl)(hl:r.all (fun x=>listed.getD x true==false)=true:=by kernel_rfl)(hf:Region.free md ops listed i=true:=by kernel_rfl)(hr:(Region.ready md ops listed).contains i=true:=by kernel_rfl)
 (hQ:∀v c a w,Q (.panic c) (a.put oi.dst v) w→Q (.panic c) a w:=by exact fun _ _ _ _ h=>h)(hg:oi.guard=none:=by rfl):eH P md ops Q S N (f+1) listed a w:=by
 subst hl' ha';exact eH.first r (oH hi) (Region.noSelect_spec hs) hw (hQ v) f listed a w (fun x hx=>by have:=List.all_eq_true.1 hl x hx;simpa using this) (fun n h=>by have:=List.all_eq_true.1 hn n h;rw[Bool.or_eq_true]at this;exact this.imp (fun h=>by simpa using h) id) (Region.free_spec (oH hi) hf) (by simpa using hr) (.inl ⟨by simp[Region.wanted,hg],hy⟩) hS h
theorem eH.pure {N:List Nat}{i:Nat}{oi:Oper}{v:Value}(hi:ops[i]?=some oi)(hsel:∀(j:Nat)(o:Oper)cs b,ops[j]?=some o→o.op≠.select cs b)(hN:i∈N)
 (hQ:∀c a w,Q (.panic c) (a.put oi.dst v) w→Q (.panic c) a w):∀(f:Nat)(listed:Array Bool)(a:Act)(w:World),
  (∀j oj,ops[j]?=some oj→j≠i→listed.getD j true=false→(∀e∈oj.after,Region.binds md e=true→e.on≠i)→oi.apart ops oj=true)→
  i∈Region.ready md ops listed→YieldsIf P ops (fun _=>True) oi v a→
  eH P md ops Q S N f (listed.setIfInBounds i true) (a.put oi.dst v) w→eH P md ops Q S N (f+1) listed a w:=by
 intro f;induction f with
 |zero=>
  intro listed a w _ hr hy H;refine⟨fun h=>absurd hr (by rw[h];simp),fun j hj=>?_⟩;by_cases hji:j=i
  ·subst hji;exact hy.wpOp hi trivial ⟨fun h=>absurd hN h,H⟩
  ·have hm:=ready_mono hj hji;rw[H.1]at hm;cases hm
 |succ f ih=>
  intro listed a w hfree hr hy H;refine⟨fun h=>absurd hr (by rw[h];simp),fun j hj=>?_⟩;by_cases hji:j=i
  ·subst hji;exact hy.wpOp hi trivial ⟨fun h=>absurd hN h,H⟩
  have hiu:listed.getD i true=false:=(mem_ready.1 hr).1;have h1:=H.2 j (ready_mono hj hji);obtain⟨Dj,oj,hoj,hall⟩:=mem_ready.1 hj;have hnot:∀e∈oj.after,Region.binds md e=true→e.on≠i:=fun e he hb heq=>by
   have h2:=hall e he hb;rw[heq,getD_both hiu]at h2;cases h2
  have h2:=wpOp_putIf hoj (hfree j oj hoj hji Dj hnot) (fun cs b=>hsel i oi cs b hi) (fun cs b=>hsel j oj cs b hoj) hQ hy h1;refine wpOp_mono (fun a' w' h3=>⟨h3.2.1,ih (listed.setIfInBounds j true) a' w' (fun k ok hk hki hun hno=>hfree k ok hk hki ?_ hno) (ready_mono hr (Ne.symm hji)) h3.1 ?_⟩) h2
  ·by_cases hjk:j=k
   ·subst hjk;exact Dj
   ·rwa[getD_set_ne true hjk]at hun
  ·rw[Array.setIfInBounds_comm _ _ hji];exact h3.2.2
theorem eH.p {N:List Nat}{oi:Oper}{ro:List Oper}{v:Value}{f:Nat}{listed l':Array Bool}{a a':Act}{w:World}(i:Nat)(hi:ops.toList.drop i=oi::ro)(h:eH P md ops Q S N f l' a' w)
 (hy:∀u:World,(execOp a.eval oi).run P u=.ok (.value v) u:=by intro _;go_simp;first|done|with_reducible rfl)(hl':listed.setIfInBounds i true=l':=by(try simp only[lX]);exact rfl)(ha':a.put oi.dst v=a':=by(try simp only[lX]);exact rfl)
 (hs:Region.noSelect ops=true:=by kernel_rfl)(hN:i∈N:=by decide)(hf:Region.free md ops listed i=true:=by kernel_rfl)(hr:(Region.ready md ops listed).contains i=true:=by kernel_rfl)
 (hQ:∀v c a w,Q (.panic c) (a.put oi.dst v) w→Q (.panic c) a w:=by exact fun _ _ _ _ h=>h)(hg:oi.guard=none:=by rfl):eH P md ops Q S N (f+1) listed a w:=by
 subst hl' ha';exact eH.pure (oH hi) (Region.noSelect_spec hs) hN (hQ v) f listed a w (Region.free_spec (oH hi) hf) (by simpa using hr) (.inl ⟨by simp[Region.wanted,hg],fun u _=>hy u⟩) h
theorem eH.one {N:List Nat}{i:Nat}{o:Oper}{f:Nat}{listed:Array Bool}{a:Act}{w:World}(hr:Region.ready md ops listed=[i])(ho:ops[i]?=some o)
 (h:∀K:Act→World→Prop,(∀a' w',(i∉N→S w')→eH P md ops Q S N f (listed.setIfInBounds i true) a' w'→K a' w')→if Region.wanted o (yielded ops a.tmps)=true then Oper.wp P o a w K Q else K (a.put o.dst undef) w):
 eH P md ops Q S N (f+1) listed a w:=by
 refine⟨(fun h0=>by rw[hr]at h0;cases h0),fun j hj=>?_⟩;rw[hr]at hj;obtain rfl:j=i:=by simpa using hj
 have h1:=h (fun a' w'=>(j∉N→S w')∧eH P md ops Q S N f (listed.setIfInBounds j true) a' w') (fun a' w' a b=>⟨a,b⟩);unfold wpOp;simp only[ho];by_cases hwn:Region.wanted o (yielded ops a.tmps)=true
 ·simp only[hwn,if_true]at h1⊢;exact .inl h1
 ·simp only[hwn]at h1⊢;exact h1
theorem eH.o {N:List Nat}{o:Oper}{ro:List Oper}{f:Nat}{listed:Array Bool}{a:Act}{w:World}(i:Nat)(ho:ops.toList.drop i=o::ro)
 (h:∀K:Act→World→Prop,(∀a' w',(i∉N→S w')→eH P md ops Q S N f (listed.setIfInBounds i true) a' w'→K a' w')→if Region.wanted o (yielded ops a.tmps)=true then Oper.wp P o a w K Q else K (a.put o.dst undef) w)(hr:Region.ready md ops listed=[i]:=by kernel_rfl):
 eH P md ops Q S N (f+1) listed a w:=eH.one hr (oH ho) h
theorem eH.done {N:List Nat}{listed:Array Bool}{a:Act}{w:World}(hr:Region.ready md ops listed=[])(h:Q .normal a w):∀f,eH P md ops Q S N f listed a w
 |0=>⟨hr,h⟩
 |_+1=>⟨fun _=>h,by rw[hr];simp⟩
theorem FR {id:Nat}{N:List Nat}{a:Act}{w:World}(S:World→Prop)(hm:P.follows .mixedOrders=true)(h:eH P .any ops Q S N ops.size (Array.replicate ops.size false) a w.drew):(Code.region id ops true).wp P Q a w:=
 wp_region_any hm (eH.any _ _ _ _ h)
end
def Ic (x y:Nat):Int:=if x<y then -1 else if y<x then 1 else 0
theorem Xm (x y:Nat):decide (Ic x y<0)=decide (x<y):=by
 unfold Ic;rw[decide_eq_decide];split
 ·omega
 ·split<;>omega
theorem BJ (w:World)(x:Int):Calls Tryz.prog 175 #[.int .i64 x] w fun e w'=>e=.returned (.bool false)∧w'=w:=by
 go_enter Tryz.func175,Tryz.ntmps175
 go_wp2_with fail
 go_ret;exact⟨rfl,rfl⟩
theorem OJ (w:World)(x y:Nat):Calls Tryz.prog 168 #[.int .i64 x,.int .i64 y] w fun e w'=>e=.returned (.int .i64 (Ic x y))∧w'=w:=by
 unfold Ic;by_cases h1:x<y
 ·rw[if_pos h1];go_enter Tryz.func168,Tryz.ntmps168
  go_wp2_with (go_at_call 175;refine(BJ _ _).mono ?_;rintro e w1 ⟨rfl,rfl⟩)
  go_ret;exact⟨rfl,rfl⟩
 ·rw[if_neg h1];by_cases h2:y<x
  ·rw[if_pos h2];go_enter Tryz.func168,Tryz.ntmps168
   go_wp2_with (go_at_call 175;refine(BJ _ _).mono ?_;rintro e w1 ⟨rfl,rfl⟩)
   go_ret;exact⟨rfl,rfl⟩
  ·rw[if_neg h2];go_enter Tryz.func168,Tryz.ntmps168
   go_wp2_with (go_at_call 175;refine(BJ _ _).mono ?_;rintro e w1 ⟨rfl,rfl⟩)
   go_ret;exact⟨rfl,rfl⟩
abbrev YW (x:Pl.cK):Value:=FX x.page.place x.page.length x.page.sum x.group x.column x.rows
theorem Xn (w:World)(x y:Pl.cK):Calls Tryz.prog 167 #[YW x,YW y] w fun e w'=>e=.returned (.int .i64 (Ic x.page.place y.page.place))∧Ext w w':=by
 go_enter Tryz.func167,Tryz.ntmps167
 go_wp2_with (go_at_call 168;refine(OJ _ _ _).mono ?_;rintro e w1 ⟨rfl,rfl⟩)
 go_ret;exact⟨rfl,(ax.alloc _).alloc _⟩
namespace Pl
theorem PK (A B:List cK)(x:cK)(hB:∀y∈B,x.page.place<y.page.place)(hA:∀y,A.getLast?=some y→y.page.place≤x.page.place):nA (A++B) x=A++[x]++B:=by
 have hall:∀y∈B.reverse,decide (x.page.place<y.page.place)=true:=fun y hy=>aH (hB y (List.mem_reverse.1 hy))
 have hd:∀(l r:List cK),(∀y∈l,decide (x.page.place<y.page.place)=true)→(l++r).dropWhile (fun y=>decide (x.page.place<y.page.place))=r.dropWhile (fun y=>decide (x.page.place<y.page.place))∧(l++r).takeWhile (fun y=>decide (x.page.place<y.page.place))=l++r.takeWhile (fun y=>decide (x.page.place<y.page.place)):=by
  intro l r hl;induction l with
  |nil=>exact⟨rfl,rfl⟩
  |cons a l ih=>
   have ha:=hl a aj;obtain⟨i1,i2⟩:=ih (fun y hy=>hl y (by simp[hy]));constructor
   ·rw[List.cons_append,List.dropWhile_cons,if_pos ha,i1]
   ·rw[List.cons_append,List.takeWhile_cons,if_pos ha,i2];rfl
 have hr:A.reverse.dropWhile (fun y=>decide (x.page.place<y.page.place))=A.reverse∧A.reverse.takeWhile (fun y=>decide (x.page.place<y.page.place))=[]:=by
  cases h:A.reverse with
  |nil=>exact⟨rfl,rfl⟩
  |cons a r=>
   have:A.getLast?=some a:=by rw[←List.head?_reverse,h];rfl
   have hn:¬(decide (x.page.place<a.page.place)=true):=by simpa using hA a this
   exact⟨by rw[List.dropWhile_cons,if_neg hn],by rw[List.takeWhile_cons,if_neg hn]⟩
 unfold nA;rw[List.reverse_append];obtain⟨h1,h2⟩:=hd B.reverse A.reverse hall;rw[h1,h2,hr.1,hr.2];simp
theorem Rh (l:List cK)(x:cK):iD (l++[x])=nA (iD l) x:=by
 unfold iD;rw[List.foldl_append];rfl
theorem Xo (l:List cK)(x:cK):(nA l x).length=l.length+1:=by
 unfold nA;have:=congrArg List.length (List.takeWhile_append_dropWhile (p:=fun y:cK=>decide (x.page.place<y.page.place)) (l:=l.reverse));simp only[aD,List.length_reverse,aR,List.length_nil]at this⊢;omega
theorem uS (l:List cK):(iD l).length=l.length:=by
 have h:∀(l acc:List cK),(l.foldl nA acc).length=acc.length+l.length:=by
  intro l;induction l with
  |nil=>intro acc;rfl
  |cons a l ih=>intro acc;rw[List.foldl_cons,ih,Xo];simp;omega
 unfold iD;simpa using h l []
end Pl
theorem wF (L:List Pl.cK)(i j:Nat)(hi:i<L.length)(hj:j<6):(L.flatMap b_)[i*6+j]?=(b_ L[i])[j]?:=by
 rw[show L.flatMap b_=(L.map b_).flatten from rfl];exact jB 6 (L.map b_) (fun e he=>by rw[List.mem_map]at he;obtain⟨q,_,rfl⟩:=he;rfl) i j hj (b_ L[i]) (by rw[aN,ay hi];rfl)
theorem Ud (L:List Pl.cK):(L.flatMap b_).length=L.length*6:=by
 induction L with
 |nil=>rfl
 |cons a r ih=>rw[List.flatMap_cons,aD,ih];simp[b_];omega
theorem Own.setCells {w:World}{g cap:Nat}{L:List Pl.cK}(h:Own w 6 (.slice (some ⟨g,0,none⟩) L.length cap) L.length (L.flatMap b_))(i:Nat)(x:Pl.cK)(hi:i<L.length):Own (w.setCells g (i*6) (b_ x)) 6 (.slice (some ⟨g,0,none⟩) L.length cap) L.length ((L.set i x).flatMap b_):=by
 refine⟨by rw[Ud,List.length_set],?_⟩;rcases h.2 with⟨e,_⟩|⟨g',cap',e,h1,h2,h3,h4,h5⟩
 ·cases e
 ·cases e;have hin:∀j,j<6→(w.setCells g (i*6) (b_ x)).cell? ⟨g,i*6+j,none⟩=(b_ x)[j]?:=fun j hj=>by
   exact(World.cell?_setCells_in g (b_ x) (i*6) w (fun j' hj'=>(h5 _ (by have:(b_ x).length=6:=rfl;omega)).1) j hj).trans (ay (show j<(b_ x).length from hj)).symm
  have hout:∀k,(k<i*6∨i*6+6≤k)→(w.setCells g (i*6) (b_ x)).cell? ⟨g,k,none⟩=w.cell? ⟨g,k,none⟩:=fun k hk=>World.cell?_setCells_out g _ _ _ _ (fun _ _=>hk)
  have hsz:=(World.keptBut_setCells g (may:=fun _=>True) (b_ x) (i*6) w (fun _ _=>trivial)).size;refine .inr ⟨g,cap,rfl,h1,h2,af,fun k hk=>?_,fun k hk=>⟨?_,by rw[World.frozen?_setCells];exact(h5 k hk).2⟩⟩
  ·have hq:k/6<L.length:=af;have hk':k=k/6*6+k%6:=af;rw[hk',wF (L.set i x) (k/6) (k%6) (by rw[List.length_set];exact hq) af,List.getElem_set];by_cases he:i=k/6
   ·rw[if_pos he,←he];exact hin _ af
   ·rw[if_neg he,hout _ af,h4 _ af,wF L (k/6) (k%6) hq af]
  ·by_cases hc:k<i*6∨i*6+6≤k
   ·rw[hout k hc];exact(h5 k hk).1
   ·have:=hin (k-i*6) af;rw[show i*6+(k-i*6)=k from af]at this;rw[this,ay (by show k-i*6<6;omega)];rfl
theorem swap_eq (A B R:List Pl.cK)(x y:Pl.cK):(((A++[y]++[x]++B++R).set (A.length+1) y).set A.length x)=A++[x]++([y]++B)++R:=by
 simp
theorem aan (A B R:List Pl.cK)(x y:Pl.cK):(A++[y]++[x]++B++R)[A.length]?=some y∧(A++[y]++[x]++B++R)[A.length+1]?=some x:=by
 simp
theorem Ue (x:Pl.cK):(b_ x).toArray.all (·.oneCell')=true:=by simp[b_,I,Value.oneCell']
theorem PL :(Tryz.prog.info? 253).map (·.size)=some 6:=by kernel_rfl
theorem Ie (w:World)(g cap:Nat)(pages:List Pl.cK)(h0:0<pages.length)(hl:pages.length≤1000)(hO:Own w 6 (.slice (some ⟨g,0,none⟩) pages.length cap) pages.length (pages.flatMap b_)):
 Calls Tryz.prog 177 #[.slice (some ⟨g,0,none⟩) pages.length cap,.int .i64 0,.int .i64 pages.length,F 167] w fun e w'=>e=.returned (.tuple #[])∧Own w' 6 (.slice (some ⟨g,0,none⟩) pages.length cap) pages.length ((Pl.iD pages).flatMap b_)∧Kp (fun k=>k=g) w w':=by
 have Ri:Pl.iD (pages.take 1)++pages.drop 1=pages:=by
  cases pages with
  |nil=>simp at h0
  |cons a r=>rfl
 go_enter Tryz.func177,Tryz.ntmps177
 go_wp2_with fail
 go_loopw [8] (fun i wr=>∃k:Nat,i=.int .i64 k∧1≤k∧k≤pages.length∧Own wr 6 (.slice (some ⟨g,0,none⟩) pages.length cap) pages.length ((Pl.iD (pages.take k)++pages.drop k).flatMap b_)∧Kp (fun k=>k=g) w wr) (fun i _=>pages.length-(intOf i).toNat)
 case atStart=>exact⟨1,rfl,aK _,h0,by rw[Ri];exact hO,Kp.refl _ _⟩
 case round=>
  obtain⟨k,rfl,hk1,hk,ho,hx⟩:=hrel;clear hO Ri;by_cases hkl:k<pages.length
  ·have hsl:(Pl.iD (pages.take k)).length=k:=by rw[Pl.uS,aU];omega
   have HT:Hid (Pl.iD (pages.take (k+1))=Pl.nA (Pl.iD (pages.take k)) pages[k]):=hide (by rw[aF hkl,Pl.Rh]);rw[aV hkl]at ho;generalize pages[k]=x at*;generalize Pl.iD (pages.take k)=SL at*;have HD:Hid ((pages.drop (k+1)).length+(k+1)=pages.length):=hide (by rw[bq];omega);generalize hR:pages.drop (k+1)=R at*;have HR:=hide hR;clear hR
   go_wp2_with fail
   go_loopw [9] (fun j wi=>∃(A B:List Pl.cK),j=.int .i64 A.length∧A++B=SL∧(∀y∈B,x.page.place<y.page.place)∧Own wi 6 (.slice (some ⟨g,0,none⟩) pages.length cap) pages.length ((A++[x]++B++R).flatMap b_)∧Kp (fun k=>k=g) w wi) (fun j _=>(intOf j).toNat)
   case atStart=>exact⟨SL,[],by rw[hsl],aj,fun y hy=>by simp at hy,by simpa using ho,hx⟩
   case round=>
    obtain⟨A,B,rfl,DI,hB,hoi,hxi⟩:=hrel;clear ho;have hlen:A.length+B.length=k:=by rw[←hsl,←DI,aD]
    rcases List.eq_nil_or_concat A with rfl|⟨A',y,rfl⟩
    ·have HF:Hid (Pl.nA SL x=[]++[x]++B):=hide (by rw[←DI];exact Pl.PK [] B x hB (fun y e=>by simp at e));clear hsl DI;have hx1:Ext wr wr.drew:=ax.drew
     go_wp2_with fail
     refine bZ (n:=16) (Ext wr) (by kernel_rfl) ?_;refine Late.t 0 [2,3,16] rfl hx1 ?_;refine Late.t 1 [2,3,16] rfl hx1 ?_;refine Late.t 2 [3,16] rfl hx1 ?_;refine Late.t 3 [16] rfl hx1 ?_;refine Late.s 4 [14,15,16] rfl hx1 ?_;refine Late.s 5 [7,8,14,15,16] rfl hx1 ?_;refine Late.s 6 [7,8,14,15,16] rfl hx1 ?_;refine Late.s 7 [8,14,15,16] rfl hx1 ?_;refine Late.s 8 [14,15,16] rfl hx1 ?_;refine Late.s 9 [12,13,14,15,16] rfl hx1 ?_;refine Late.s 10 [11,12,13,14,15,16] rfl hx1 ?_;refine Late.s 11 [12,13,14,15,16] rfl hx1 ?_;refine Late.s 12 [13,14,15,16] rfl hx1 ?_;refine Late.s 13 [14,15,16] rfl hx1 ?_;refine Late.s 14 [15,16] rfl hx1 ?_;refine Late.s 15 [16] rfl hx1 ?_;refine Late.o 16 rfl (fun K hK=>?_);go_simp;refine hK _ _ (fun h=>absurd rfl h) ?_;clear hK K;try simp only[lX]
     refine Late.done (by kernel_rfl) ?_ _
     go_wp2_with fail
     refine⟨⟨k+1,by go_num,af,af,?_,hxi.trans (Kp.cZ hx1)⟩,by simp[intOf];omega⟩;rw[HT.out,HF.out,HR.out];exact hoi.ext hx1
    ·rw[List.concat_eq_append]at DI hoi hlen;rw[show(A'.concat y).length=A'.length+1 from aj];have hll:(A'++[y]++[x]++B++R).length=pages.length:=by have:=HD.out;simp at hlen⊢;omega
     obtain⟨gy,gx⟩:=aan A' B R x y;obtain⟨gyl,gy⟩:=aL.1 gy;obtain⟨gxl,gx⟩:=aL.1 gx;have hcy:∀c,c<6→wr.cell? ⟨g,A'.length*6+c,none⟩=(b_ y)[c]?:=fun c hc=>by
      rw[(hoi.cellAt (A'.length*6+c) af).1,wF _ A'.length c gyl hc,gy]
     have hcx:∀c,c<6→wr.cell? ⟨g,(A'.length+1)*6+c,none⟩=(b_ x)[c]?:=fun c hc=>by
      rw[(hoi.cellAt ((A'.length+1)*6+c) af).1,wF _ (A'.length+1) c gxl hc,gx]
     have abV:wr.there g (A'.length*6) 6:=fun c hc=>⟨by rw[hcy c hc,ay (show c<(b_ y).length from hc)];rfl,(hoi.cellAt (A'.length*6+c) af).2⟩
     have Xp:wr.there g ((A'.length+1)*6) 6:=fun c hc=>⟨by rw[hcx c hc,ay (show c<(b_ x).length from hc)];rfl,(hoi.cellAt ((A'.length+1)*6+c) af).2⟩
     have HSW:=hide (swap_eq A' B R x y);have hpq:A'.length+1≤pages.length:=by have:=HD.out;simp at hlen;omega
     obtain⟨q,hq⟩:∃q,q=A'.length+1:=⟨_,rfl⟩
     rw[←hq]at hcx Xp;rw[←hq];have HQ:=hide hq;have hqi:(q:Int)-1=((A'.length:Nat):Int):=af;have hq0:0<q:=af;have hqp:q<pages.length:=by have:=HD.out;simp at hlen;omega
     have aiE:A'.length<pages.length:=af;clear hq gy gx gyl gxl;have hx1:Ext wr wr.drew:=ax.drew;have hS:∀u,Ext wr u→u.cell? ⟨g,A'.length*6,none⟩=some (.int .i64 y.page.place)∧u.cell? ⟨g,A'.length*6+1,none⟩=some (.int .i64 y.page.length)∧u.cell? ⟨g,A'.length*6+2,none⟩=some (.int .u32 y.page.sum)∧u.cell? ⟨g,A'.length*6+3,none⟩=some (.int .i64 y.group)∧u.cell? ⟨g,A'.length*6+4,none⟩=some (.int .i64 y.column)∧u.cell? ⟨g,A'.length*6+5,none⟩=some (.int .i64 y.rows)∧u.cell? ⟨g,q*6,none⟩=some (.int .i64 x.page.place)∧u.cell? ⟨g,q*6+1,none⟩=some (.int .i64 x.page.length)∧u.cell? ⟨g,q*6+2,none⟩=some (.int .u32 x.page.sum)∧u.cell? ⟨g,q*6+3,none⟩=some (.int .i64 x.group)∧u.cell? ⟨g,q*6+4,none⟩=some (.int .i64 x.column)∧u.cell? ⟨g,q*6+5,none⟩=some (.int .i64 x.rows):=
      fun u hu=>⟨hu.cell (hcy 0 af) id,hu.cell (hcy 1 af) id,hu.cell (hcy 2 af) id,hu.cell (hcy 3 af) id,hu.cell (hcy 4 af) id,hu.cell (hcy 5 af) id,hu.cell (hcx 0 af) id,hu.cell (hcx 1 af) id,hu.cell (hcx 2 af) id,hu.cell (hcx 3 af) id,hu.cell (hcx 4 af) id,hu.cell (hcx 5 af) id⟩
     have HS:=hide hS;clear hS hcy hcx;have HY:=hide abV;have HX:=hide Xp;clear abV Xp;generalize hpa:A'.length=pa at*;have HPA:=hide hpa;clear hpa;have hwp:IntKind.i64.wrap ((pa:Int))=(pa:Int):=by simp only[IntKind.wrap,IntKind.bits,IntKind.signed,Bool.true_and];rw[if_neg (by simp;omega)];omega
     go_wp2_with fail
     refine bZ (n:=16) (Ext wr) (by kernel_rfl) ?_;refine Late.t 0 [2,3,16] rfl hx1 ?_;refine Late.t 1 [2,3,16] rfl hx1 ?_;refine Late.t 2 [3,16] rfl hx1 ?_;refine Late.t 3 [16] rfl hx1 ?_;refine Late.h HS 4 [14,15,16] rfl hx1 ?_;refine Late.h HS 5 [7,8,14,15,16] rfl hx1 ?_;refine Late.h HS 6 [7,8,14,15,16] rfl hx1 ?_;refine Late.h HS 7 [8,14,15,16] rfl hx1 ?_;refine Late.h HS 8 [14,15,16] rfl hx1 ?_;refine Late.h HS 9 [12,13,14,15,16] rfl hx1 ?_;refine Late.h HS 10 [11,12,13,14,15,16] rfl hx1 ?_;refine Late.h HS 11 [12,13,14,15,16] rfl hx1 ?_;refine Late.h HS 12 [13,14,15,16] rfl hx1 ?_;refine Late.h HS 13 [14,15,16] rfl hx1 ?_;refine Late.o 14 rfl (fun K hK=>?_);refine oK (by rfl) 167 #[YW x,YW y] (by go_simp) ?_;refine(Xn wr.drew x y).mono ?_;rintro e w3 ⟨rfl,x3⟩;have hx3:Ext wr w3:=hx1.trans x3;refine⟨_,rfl,hK _ _ (fun _=>hx3) ?_⟩;clear hK K;try simp only[lX]
     have hcn:=Xm x.page.place y.page.place;generalize Ic x.page.place y.page.place=r at*;by_cases hd:x.page.place<y.page.place
     ·rw[aH hd,decide_eq_true_iff]at hcn;refine Late.t 15 [16] rfl hx3 ?_;refine Late.o 16 rfl (fun K hK=>?_);go_simp;refine hK _ _ (fun h=>absurd rfl h) ?_;clear hK K;try simp only[lX]
      refine Late.done (by kernel_rfl) ?_ _
      go_wp2_with fail
      have hy1:Ext w3 w3.drew:=ax.drew;refine FR (N:=[2,3,4,15,16,17]) (Ext w3) (by kernel_rfl) ?_;refine eH.p 2 rfl ?_;refine eH.p 3 rfl ?_;refine eH.p 4 rfl ?_;refine eH.t 0 [15,16,17] rfl hy1 ?_ (hy:=fun u hu=>by skip;exact G);refine eH.t 1 [15,16,17] rfl hy1 ?_ (hy:=fun u hu=>by skip;exact G);refine eH.t 5 [15,16,17] rfl hy1 ?_ (hy:=fun u hu=>by obtain⟨u0,u1,u2,u3,u4,u5,v0,v1,v2,v3,v4,v5⟩:=(bH HS) u (hx3.trans hu);exact G);refine eH.t 6 [15,16,17] rfl hy1 ?_ (hy:=fun u hu=>by obtain⟨u0,u1,u2,u3,u4,u5,v0,v1,v2,v3,v4,v5⟩:=(bH HS) u (hx3.trans hu);exact G);refine eH.t 7 [15,16,17] rfl hy1 ?_ (hy:=fun u hu=>by obtain⟨u0,u1,u2,u3,u4,u5,v0,v1,v2,v3,v4,v5⟩:=(bH HS) u (hx3.trans hu);exact G);refine eH.t 8 [15,16,17] rfl hy1 ?_ (hy:=fun u hu=>by obtain⟨u0,u1,u2,u3,u4,u5,v0,v1,v2,v3,v4,v5⟩:=(bH HS) u (hx3.trans hu);exact G);refine eH.t 9 [15,16,17] rfl hy1 ?_ (hy:=fun u hu=>by obtain⟨u0,u1,u2,u3,u4,u5,v0,v1,v2,v3,v4,v5⟩:=(bH HS) u (hx3.trans hu);exact G);refine eH.t 10 [12,13,15,16,17] rfl hy1 ?_ (hy:=fun u hu=>by obtain⟨u0,u1,u2,u3,u4,u5,v0,v1,v2,v3,v4,v5⟩:=(bH HS) u (hx3.trans hu);exact G);refine eH.t 11 [12,13,15,16,17] rfl hy1 ?_ (hy:=fun u hu=>by obtain⟨u0,u1,u2,u3,u4,u5,v0,v1,v2,v3,v4,v5⟩:=(bH HS) u (hx3.trans hu);exact G);refine eH.t 12 [13,15,16,17] rfl hy1 ?_ (hy:=fun u hu=>by obtain⟨u0,u1,u2,u3,u4,u5,v0,v1,v2,v3,v4,v5⟩:=(bH HS) u (hx3.trans hu);exact G);refine eH.t 13 [15,16,17] rfl hy1 ?_ (hy:=fun u hu=>by obtain⟨u0,u1,u2,u3,u4,u5,v0,v1,v2,v3,v4,v5⟩:=(bH HS) u (hx3.trans hu);exact G);refine eH.t 14 [15,16,17] rfl hy1 ?_ (hy:=fun u hu=>by obtain⟨u0,u1,u2,u3,u4,u5,v0,v1,v2,v3,v4,v5⟩:=(bH HS) u (hx3.trans hu);exact G);have hdr:Ext wr w3.drew:=hx3.trans hy1;have aiF:w3.drew.there g (q*6) 6:=fun c hc=>by
       have:=(bH HX) c hc;rw[World.cell?_of_block (w:=wr) (a:=⟨g,q*6+c,none⟩) (hdr.block g (hoi.lt rfl) id),World.frozen?_of_block (w:=wr) (a:=⟨g,q*6+c,none⟩) (hdr.block g (hoi.lt rfl) id)];exact this
      refine eH.o 15 rfl (fun K hK=>?_);rw[if_pos (by rfl)];refine wp_store_mid 253 _ _ rfl g (q*6) (b_ y).toArray rfl rfl aiF PL (Ue y) (hK _ _ (fun h=>absurd (by decide) h) ?_);clear hK K;try simp only[Act.put]
      try rw[show(b_ y).toArray.toList=b_ y from rfl]
      have abY:(w3.drew.setCells g (q*6) (b_ y)).there g (pa*6) 6:=fun c hc=>by
       have hq:=HQ.out;have:=(bH HY) c hc;have e1:(w3.drew.setCells g (q*6) (b_ y)).cell? ⟨g,pa*6+c,none⟩=w3.drew.cell? ⟨g,pa*6+c,none⟩:=World.cell?_setCells_out g (b_ y) (q*6) w3.drew ⟨g,pa*6+c,none⟩ (fun _ _=>Or.inl (by show pa*6+c<q*6;omega));have e2:(w3.drew.setCells g (q*6) (b_ y)).frozen? ⟨g,pa*6+c,none⟩=w3.drew.frozen? ⟨g,pa*6+c,none⟩:=World.frozen?_setCells g (b_ y) (q*6) w3.drew ⟨g,pa*6+c,none⟩;rw[e1,e2,World.cell?_of_block (w:=wr) (a:=⟨g,pa*6+c,none⟩) (hdr.block g (hoi.lt rfl) id),World.frozen?_of_block (w:=wr) (a:=⟨g,pa*6+c,none⟩) (hdr.block g (hoi.lt rfl) id)];exact this
      have o2:Own (w3.drew.setCells g (q*6) (b_ y)) 6 (.slice (some ⟨g,0,none⟩) (A'++[y]++[x]++B++R).length cap) (A'++[y]++[x]++B++R).length (((A'++[y]++[x]++B++R).set q y).flatMap b_):=by
       have o1:=hoi.ext hdr;rw[←hll]at o1;exact o1.setCells q y (by rw[hll];exact hqp)
      have hk5:Kp (fun k=>k=g) wr (w3.drew.setCells g (q*6) (b_ y)):=(Kp.cZ hdr).trans (oI g (b_ y) (q*6) w3.drew);have YX:=hide o2;clear o2;generalize w3.drew.setCells g (q*6) (b_ y)=W5 at*;refine eH.p 16 rfl ?_;refine eH.o 17 rfl (fun K hK=>?_);rw[if_pos (by rfl)];refine wp_store_mid 253 _ _ rfl g (pa*6) (b_ x).toArray rfl rfl abY PL (Ue x) (hK _ _ (fun h=>absurd (by decide) h) ?_);clear hK K;try simp only[Act.put]
      try rw[show(b_ x).toArray.toList=b_ x from rfl]
      have hfin:Own (W5.setCells g (pa*6) (b_ x)) 6 (.slice (some ⟨g,0,none⟩) pages.length cap) pages.length ((A'++[x]++([y]++B)++R).flatMap b_):=by
       have o3:=Own.setCells (L:=(A'++[y]++[x]++B++R).set q y) (by rw[List.length_set];exact YX.out) pa x (by rw[List.length_set,hll];exact aiE);rw[List.length_set,hll,HQ.out,HSW.out]at o3;exact o3
      have hkp:Kp (fun k=>k=g) wr (W5.setCells g (pa*6) (b_ x)):=hk5.trans (oI g (b_ x) (pa*6) W5);have aiG:=hide hfin;have HKP:=hide hkp;clear hfin hkp abY hk5 YX;generalize W5.setCells g (pa*6) (b_ x)=W9 at*;refine eH.done (by kernel_rfl) ?_ _;have aiH:A'++([y]++B)=SL:=by rw[←DI];simp
      have hB':∀z∈[y]++B,x.page.place<z.page.place:=fun z hz=>by
       rcases aI.1 hz with h|h
       ·simp at h;subst h;exact hd
       ·exact hB z h
      go_wp2_with fail
      refine⟨⟨A',[y]++B,by rw[HPA.out],aiH,hB',aiG.out,hxi.trans HKP.out⟩,?_⟩;simp[intOf];omega
     ·rw[aG hd,decide_eq_false_iff_not]at hcn;have HF:Hid (Pl.nA SL x=(A'++[y])++[x]++B):=hide (by rw[←DI];exact Pl.PK (A'++[y]) B x hB (fun z e=>by simp at e;subst e;omega));refine Late.t 15 [16] rfl hx3 ?_;refine Late.o 16 rfl (fun K hK=>?_);go_simp;refine hK _ _ (fun h=>absurd rfl h) ?_;clear hK K;try simp only[lX]
      refine Late.done (by kernel_rfl) ?_ _
      go_wp2_with fail
      refine⟨⟨k+1,by go_num,af,af,?_,hxi.trans (Kp.cZ hx3)⟩,by simp[intOf];omega⟩;rw[HT.out,HF.out,HR.out];exact hoi.ext hx3
  ·obtain rfl:k=pages.length:=af;rw[aX,List.drop_length,List.append_nil]at ho
   go_wp2_with fail
   go_end0
   exact⟨rfl,ho,hx⟩
def Fits (gs:List (List (List Int))):Prop:=∀g∈gs,1≤g.length∧g.length≤4∧∀x∈g,x.length≤20∧∀y∈x,0≤y∧y≤1099511627775
theorem Yp (g:List (List Int))(st:List UInt8×List UInt8)(h:st.1.length+141*g.length≤5000)(hx:∀x∈g,x.length≤20∧∀y∈x,0≤y∧y≤1099511627775)(hg:0<g.length):
 (Pl.rT st g).1.length≤st.1.length+141*g.length∧(Pl.rT st g).2.length≤st.2.length+1+10*g.length:=by
 have h0:=(hx (g.getD 0 []) (by rw[getD_at g 0 [] hg];exact aJ hg)).1;have h1:=Pl.eB 0 (g.getD 0 []).length (by show _<128;omega);have:=Bp g (st.1,st.2++Pl.dG (g.getD 0 []).length) h hx;unfold Pl.rT;simp only[aD]at this⊢;omega
theorem J3 (gs:List (List (List Int))):∀st:List UInt8×List UInt8,st.1.length+564*gs.length≤5000→Fits gs→(Pl.mI st gs).1.length≤st.1.length+564*gs.length∧(Pl.mI st gs).2.length≤st.2.length+41*gs.length:=by
 induction gs with
 |nil=>intro st _ _;exact⟨aK _,aK _⟩
 |cons g r ih=>
  intro st h hx;obtain⟨a1,a2,a3⟩:=hx g aj;have h1:=Yp g st (by simp only[aR]at h;omega) a3 af;have h2:=ih (Pl.rT st g) (by simp only[aR]at h;omega) (fun y hy=>hx y (by simp[hy]));show(Pl.mI (Pl.rT st g) r).1.length≤_∧(Pl.mI (Pl.rT st g) r).2.length≤_;simp only[aR]at*;omega
theorem xD :Pl.mark.length=4:=rfl
theorem Qh {bD:Nat}{gs:List (List (List Int))}(hc:1≤bD)(hc4:bD≤4)(h:∀g∈gs,Pl.lY bD g=true):Fits gs:=by
 intro g hg;obtain⟨a,b,c,d⟩:=(Pl.qA bD g).1 (h g hg);refine⟨af,af,fun x hx=>?_⟩;have:=d x hx;unfold Pl.mK at this;rw[Bool.and_eq_true,decide_eq_true_eq,List.all_eq_true]at this;exact⟨af,fun y hy=>(Pl.uH y).1 (this.2 y hy)⟩
theorem NZ {names:List (List UInt8)}{gs:List (List (List Int))}(h:Pl.lC names gs=false):Pl.write names gs=([],1):=by unfold Pl.write;rw[h];rfl
theorem J4 {names:List (List UInt8)}{gs:List (List (List Int))}(h:Pl.lC names gs=true):Pl.write names gs=Pl.sealed (Pl.parts names gs):=by unfold Pl.write;rw[h];rfl
theorem VX (w:World)(arr:Array Value)(n:Nat)(cur:List UInt8)(hn:n=cur.length)(h:arr=(cur.map B).toArray)(hm:n≤1000000):dZ (w.alloc (.cells arr 5 (n,n+1))) (.slice (some ⟨w.heap.size,0,none⟩) n n) cur:=by
 subst hn;subst h;have hb:=heap_alloc_new w (.cells (cur.map B).toArray 5 (cur.length,cur.length+1));refine .inr ⟨w.heap.size,cur.length,rfl,aK _,by unfold maxLen;omega,aj,fun j hj=>?_,fun j hj=>⟨?_,?_⟩⟩
 ·simp only[World.cell?,hb];simp
 ·simp only[World.cell?,hb];simp[hj]
 ·simp only[World.frozen?,hb];simp;omega
theorem aev (w:World)(ps:List UInt8)(arr:Array Value)(n:Nat)(hn:n=ps.length)(ha:arr=(ps.map B).toArray)(hm:n≤1000000):
 Wr w.heap.size (w.heap.size+1) ((w.alloc (.cells arr 5 (n,n+1))).alloc (.cells #[.slice (some ⟨w.heap.size,0,none⟩) n n,.slice none 0 0] 156)) (.slice (some ⟨w.heap.size,0,none⟩) n n) (.slice none 0 0) ps []:=by
 have ho:=VX w arr n ps hn ha hm;refine⟨af,?_,ho.ext (ax.alloc _),dZ.nil _,fun g hg=>?_,fun g hg=>?_,fun g hg=>?_⟩
 ·have:=heap_alloc_new (w.alloc (.cells arr 5 (n,n+1))) (.cells #[.slice (some ⟨w.heap.size,0,none⟩) n n,.slice none 0 0] 156);rw[show(w.alloc (.cells arr 5 (n,n+1))).heap.size=w.heap.size+1 from aj]at this;exact this
 ·simp[Value.ownBlock]at hg;omega
 ·simp[Value.ownBlock]at hg
 ·simp[Value.ownBlock]
theorem KF (B0:Nat)(w:World)(nv gv:Value)(ss:List ByteArray)(gs:List (List (List Int)))(hn:h_ B0 w nv ss)(hg:jy B0 w gv gs)(hB:B0≤w.heap.size):
 Calls Tryz.prog 77 #[.agg #[nv,gv]] w fun e w'=>e=.returned (.tuple #[.string ⟨(Pl.write (ss.map bytesOf) gs).1.toArray⟩,.int .i64 (Pl.write (ss.map bytesOf) gs).2])∧Ext w w':=by
 have hwr:∀u,Ext w u→Calls Tryz.prog 95 #[.agg #[nv,gv]] u fun e w'=>e=.returned (.bool (Pl.lC (ss.map bytesOf) gs))∧Ext u w':=fun u hu=>KW B0 u nv gv ss gs (hn.kept hu (fun _ f=>f.elim)) (hg.kept hu (fun _ f=>f.elim))
 have hn0:=hn;have hg0:=hg;obtain⟨an,cn,rfl,n1,n2,-⟩:=h_.open hn;obtain⟨ag,cg,rfl,g1,g2,-⟩:=hg.open;have hext:∀o,Ext w (w.alloc o):=fun o=>ax.alloc o
 have HR:=hide hwr;clear hwr;cases hok:Pl.lC (ss.map bytesOf) gs with
 |false=>
  rw[hok]at HR;rw[NZ hok];clear hok;go_enter Tryz.func77,Tryz.ntmps77
  go_wp2_with fail
  refine((bH HR) _ (hext _)).mono ?_;rintro e w1 ⟨rfl,x1⟩
  go_wp2_with fail
  go_ret2
  exact⟨rfl,(hext _).trans x1⟩
 |true=>
  rw[hok]at HR;rw[J4 hok];obtain⟨t1,t2,t3⟩:=(Pl.uy _ _).1 hok;obtain⟨l1,l2,l3⟩:=(Pl.fD _).1 t1;rw[aQ]at t3 l1 l2;have hfits:=Qh l1 l2 t3;have hss:∀s∈ss,s.size≤8:=fun s hs=>by
   have:=l3.1;rw[aX,List.all_eq_true]at this;have:=(Pl.nQ _).1 (this (bytesOf s) (List.mem_map.2 ⟨s,hs,rfl⟩));rw[gX]at this;exact this.2
  clear hok t1 t3 l3;go_enter Tryz.func77,Tryz.ntmps77
  go_wp2_with fail
  refine((bH HR) _ (hext _)).mono ?_;rintro e w1 ⟨rfl,x1⟩;have hcv:=fun(w:World)(C:Array Value)(n c:Nat)=>Lib.run_convert_bytes_const (P:=Tryz.prog) w 76 5 C n c Tryz.underlying76 Tryz.underlying5
  have hc0:w1.cell? ⟨w.heap.size,0,none⟩=some (.slice an ss.length cn):=x1.cell (World.cell?_alloc_new w _ _ 0) id;have hc1:w1.cell? ⟨w.heap.size,1,none⟩=some (.slice ag gs.length cg):=x1.cell (World.cell?_alloc_new w _ _ 1) id;have hsz:w.heap.size<w1.heap.size:=by have:=x1.size;simp at this;omega
  go_wp2_with fail
  have hW:=aev w1 Pl.mark #[.int .u8 67,.int .u8 79,.int .u8 76,.int .u8 49] 4 rfl rfl af;have x2:Ext w1 ((w1.alloc (.cells #[.int .u8 67,.int .u8 79,.int .u8 76,.int .u8 49] 5 (4,4+1))).alloc (.cells #[.slice (some ⟨w1.heap.size,0,none⟩) 4 4,.slice none 0 0] 156)):=(ax.alloc _).alloc _;simp only[Nat.reduceAdd]at hW x2;clear hcv;generalize(w1.alloc _).alloc _=W2 at*;have xw:Ext w W2:=((hext _).trans x1).trans x2;have hn2:h_ w1.heap.size W2 (.slice an ss.length cn) ss:=(hn0.kept xw (fun _ f=>f.elim)).mono af;have hg2:jy w1.heap.size W2 (.slice ag gs.length cg) gs:=(hg0.kept xw (fun _ f=>f.elim)).mono af;have hc0':=x2.cell hc0 id;have hc1':=x2.cell hc1 id;clear hc0 hc1;refine(K5 _ _ _ _ _ _ _ _ ss hW hn2 aj l2 hss).mono ?_;rintro e w3 ⟨rfl,Pq,fv3,h3,k3⟩;have aew:=k3.cell hc0' (fun e=>by have e':w1.heap.size≤w.heap.size:=e;omega);have aex:=k3.cell hc1' (fun e=>by have e':w1.heap.size≤w.heap.size:=e;omega);clear hc0' hc1';have f0:=h3.cell0;have f1:=h3.cell1;have f2:=h3.free 1;simp only[List.nil_append]at h3;have ln:=Az (ss.map bytesOf) (fun s hs=>by
   obtain⟨y,hy,rfl⟩:=List.mem_map.1 hs;rw[gX];exact hss y hy)
  rw[aQ]at ln;have lv:=Pl.eB 0 ss.length (by show _<128;omega);have lg:=Pl.eB 0 gs.length (by show _<128;omega);have HP:Hid (Pl.parts (ss.map bytesOf) gs=Pl.mI (Pl.mark,Pl.dG ss.length++Pl.nameBytes (ss.map bytesOf)++Pl.dG gs.length) gs):=by
   show _=_;unfold Pl.parts;rw[aQ]
  have Gn:(Pl.dG ss.length++Pl.nameBytes (ss.map bytesOf)).length≤37:=by simp only[aD];omega
  generalize Pl.dG ss.length++Pl.nameBytes (ss.map bytesOf)=nb at*;obtain⟨pa,np,pc,rfl,hnp⟩:=h3.op.shape';obtain⟨fa,nf,fc,rfl,hnf⟩:=h3.of.shape'
  go_wp2_with fail
  refine(gY _ _ _ _ h3.of af af af).mono ?_;rintro e w4 ⟨v4,rfl,o4,k4,s4⟩;simp only[Int.toNat_natCast]at o4;obtain⟨m0,m1,m2,m3⟩:=h3.Bo k4;obtain⟨a4,n4,YJ,rfl,hn4⟩:=o4.shape';obtain⟨h4,Fu⟩:=h3.xZ k4 s4 o4;have anz:=Fu.cell aew (fun e=>by have e':w1.heap.size≤w.heap.size:=e;omega);have XZ:=Fu.cell aex (fun e=>by have e':w1.heap.size≤w.heap.size:=e;omega);clear f0 f1 f2 aew aex
  go_wp2_with fail
  clear m0 m1 m2 m3;generalize w4.setCell _ _=W4 at*;have kw:Kp (From w1.heap.size) W2 W4:=k3.trans Fu;have anA:(nb++Pl.dG gs.length).length≤38:=by simp only[aD];omega
  generalize nb++Pl.dG gs.length=IY at*;go_loopw [26] (fun i wr=>∃(k:Nat)(pv fv:Value),k≤gs.length∧i=.int .i64 k∧Wr w1.heap.size (w1.heap.size+1) wr pv fv (Pl.mI (Pl.mark,IY) (gs.take k)).1 (Pl.mI (Pl.mark,IY) (gs.take k)).2∧Kp (From w1.heap.size) W2 wr) (fun i _=>gs.length-(intOf i).toNat)
  case atStart=>exact⟨0,_,_,aM _,rfl,h4,kw⟩
  case round=>
   obtain⟨k,pv,fv,hk,rfl,hWk,zh⟩:=hrel;have hlen:=J3 (gs.take k) (Pl.mark,IY) (by simp only[aU,xD];omega) (fun g hg=>hfits g (List.mem_of_mem_take hg));simp only[aU,xD]at hlen;have hmin:min k gs.length=k:=Nat.min_eq_left hk;rw[hmin]at hlen;clear hmin;by_cases hkl:k<gs.length
   ·have hgw:=hg2.kept zh (fun _ e=>e);obtain⟨_,_,he,_,_,g4⟩:=hgw.open;cases he;obtain⟨b,off,rfl,hb0,hc⟩:=g4 af;obtain⟨ak,ck,hck,m_⟩:=hc k hkl;clear hc hgw g4;have HT:Hid (Pl.mI (Pl.mark,IY) (gs.take (k+1))=Pl.rT (Pl.mI (Pl.mark,IY) (gs.take k)) gs[k]):=by
     show _=_;rw[aF hkl,Pl.Fg]
    have Dt:=hfits gs[k] (aJ hkl);rw[getD_at gs k [] hkl]at hck m_;generalize gs[k]=g at*;generalize Pl.mI (Pl.mark,IY) (gs.take k)=sk at*
    go_wp2_with fail
    refine(K4 _ _ _ _ _ _ sk.1 sk.2 g hWk m_ af af af af Dt.2.2).mono ?_;rintro e w5 ⟨rfl,pv5,fv5,h5,k5⟩
    go_wp2_with fail
    go_roundw
    case rel=>exact⟨k+1,pv5,fv5,af,by go_num,by rw[HT.out];exact h5,zh.trans k5⟩
    case measure=>simp[intOf];omega
   ·obtain rfl:k=gs.length:=af;rw[aX]at hWk hlen
    go_wp2_with fail
    refine(Qv _ _ _ _ _ _ _ hWk af af).mono ?_;rintro e w5 ⟨rfl,k5⟩
    go_wp2_with fail
    go_ret2
    rw[HP.out];refine⟨rfl,xw.then (zh.trans k5) (fun i hi e=>?_)⟩;have e':w1.heap.size≤i:=e;omega
theorem J5 (B0:Nat)(w:World)(nv gv:Value)(ss:List ByteArray)(gs:List (List (List Int)))(hn:h_ B0 w nv ss)(hg:jy B0 w gv gs)(hB:B0≤w.heap.size):
 Calls Tryz.prog 50 #[.agg #[nv,gv]] w fun e w'=>e=.returned (.tuple #[.string ⟨(Pl.write (ss.map bytesOf) gs).1.toArray⟩,.int .i64 (Pl.write (ss.map bytesOf) gs).2])∧Ext w w':=by
 have hext:∀o,Ext w (w.alloc o):=fun o=>ax.alloc o
 go_enter Tryz.func50,Tryz.ntmps50
 go_wp2_with fail
 refine(KF B0 _ nv gv ss gs (hn.kept (hext _) (fun _ f=>f.elim)) (hg.kept (hext _) (fun _ f=>f.elim)) (by simp;omega)).mono ?_;rintro e w1 ⟨rfl,x1⟩
 go_wp2_with fail
 go_ret2
 exact⟨rfl,(hext _).trans x1⟩
end Go.Proofs.YthicgffppmbamaaGreat
