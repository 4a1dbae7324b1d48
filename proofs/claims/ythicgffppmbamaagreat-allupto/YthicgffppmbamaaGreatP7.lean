import Derived.RangeFuncNested
import Derived.RangeFuncBound
import Derived.RangeFuncCalls
import Derived.RangeFuncLeaves
import Derived.Shelf.Abstract
import Derived.Shelf.RegionOpen
import Derived.WalkKit
import Derived.OwnWalkIn
import Derived.TacticsInMore
import Derived.LoopNIn
import Derived.LoopIn
import Derived.OrdersIn
import Derived.Test.YthicgffppmbamaaGreatP4
import Derived.Test.YthicgffppmbamaaGreatP6
set_option maxRecDepth 100000
set_option maxHeartbeats 16000000
namespace Go.Proofs.YthicgffppmbamaaGreat
open Go.RowKit
section
theorem uQ (W:World)(l:Nat)(o:Obj):Kp (fun k=>k=l) W (W.putObj l o):=by
 have h:=grownBy_putObj' W l o;exact⟨h.os,h.tape,h.output,h.size,fun k hk hn=>h.block k hk (fun e=>hn (by cases e;rfl))⟩
def abI {α:Type}(l:Nat)(Go:α→World→Prop)(Lv:Code→α→World→Prop)(x:α)(W:World):Exit→Act→World→Prop
 |.normal,_,W'=>(W'.heap[l]?=W.heap[l]?∧W'.heap[l-1]?=W.heap[l-1]?)∧Go x W'
 |.ret,_,W'=>(W'.heap[l]?=W.heap[l]?∧W'.heap[l-1]?=W.heap[l-1]?)∧Lv .ret x W'
 |.exit id,_,W'=>(W'.heap[l]?=W.heap[l]?∧W'.heap[l-1]?=W.heap[l-1]?)∧Lv (.exit id) x W'
 |.goto t,_,W'=>(W'.heap[l]?=W.heap[l]?∧W'.heap[l-1]?=W.heap[l-1]?)∧Lv (.goto t) x W'
 |.panic _,_,_=>False
 |.outgrown,_,_=>False
variable{F:Fence}{n:Nat}{P:Program}
theorem Kv {α:Type}{g:Operand}{ps:Array Tmp}{assign body:Code}{Q:Exit→Act→World→Prop}{a:Act}{w:World}
 (hro:F.round=none)(h1:1≤n){gf:Nat}{lb:Array Value}(hg:a.eval g=.func (.func gf) #[] lb)(hFg:F.fn gf)(eg:∀args w,(callFunc gf args).run P w=.ok (.enter gf args) w)
 (encs:α→Array Value)(hps:∀x,(encs x).size=ps.size)(Pre Go:α→World→Prop)(Lv:Code→α→World→Prop)(Fin:World→Prop)(Q7:Code→World→Prop)
 (ae_:∀x W o,Pre x W→Pre x (W.putObj (w.heap.size+1) o))(afa:∀x W o,Go x W→Go x (W.putObj (w.heap.size+1) o))(Q8:∀c x W o,Lv c x W→Lv c x (W.putObj (w.heap.size+1) o))(afb:∀W o,Fin W→Fin (W.putObj (w.heap.size+1) o))(afc:∀c W o,Q7 c W→Q7 c (W.putObj (w.heap.size+1) o))
 (a₁:α→Act)
 (hassign:∀(x:α)(W:World)(K:Act→World→Prop),K (a₁ x) W→
  assign.wpIn (F.inRound (w.heap.size+1)) (n-1-1) P (Exit.then K (fun _ _ _=>False)) {tmps:=(ps.zip (encs x)).foldl (fun t(p,v)=>t.setIfInBounds p v) a.tmps,defers:=[]} W)
 (hbody:∀(x:α)(W:World),Pre x W→body.wpIn (F.inRound (w.heap.size+1)) (n-1-1) P (abI (w.heap.size+1) Go Lv x W) (a₁ x) W)
 (hiter:∀(Rd:World→Prop)(Dn:Code→World→Prop)(W1:World),Ext w W1→W1.heap.size=w.heap.size+2→Rd W1→(∀(S:Nat→Prop)W W',Rd W→Kp S W W'→¬S w.heap.size→¬S (w.heap.size+1)→Rd W')→(∀(S:Nat→Prop)c W W',Dn c W→Kp S W W'→¬S w.heap.size→¬S (w.heap.size+1)→Dn c W')→
  (∀x W,Rd W→Pre x W→YieldAt F (n-1-1) P (w.heap.size+1) (encs x) W fun e W'=>(e=.returned (.bool true)∧Rd W'∧Go x W')∨(e=.returned (.bool false)∧∃c,Dn c W'∧Lv c x W'))→
  CallsIn F (n-1) P gf (#[.func (.yield (w.heap.size+1)) #[] #[]]++lb) W1 fun e W'=>(∃v,e=.returned v)∧((Rd W'∧Fin W')∨∃c,Dn c W'∧Q7 c W'))
 (hdone:∀(W:World),Fin W→W.heap[w.heap.size]?=some (.deferred (some []))→Q .normal {a with defers:={target:=.collected w.heap.size,args:=#[]}::a.defers} W)
 (hstop:∀(c:Code)(W:World),Q7 c W→W.heap[w.heap.size]?=some (.deferred (some []))→c.wpIn F n P Q {a with defers:={target:=.collected w.heap.size,args:=#[]}::a.defers} W):
 (Code.rangeFunc g ps assign body).wpIn F n P Q a w:=by
 refine wpIn_rangeFunc (fun fn hfn=>?_);rw[hro];obtain⟨R,hR⟩:∃R:LoopState→Option Code→Loop,R=fun st pe=>{state:=st,pending:=pe,fn,tmps:=a.tmps,params:=ps,assign,body,defers:=w.heap.size}:=⟨_,rfl⟩
 obtain⟨W1,hW1⟩:∃W1,W1=(w.alloc (.deferred (some []))).alloc (.loop (R .ready none)):=⟨_,rfl⟩
 have hloop:W1.heap[w.heap.size+1]?=some (.loop (R .ready none)):=by
  have:=World.alloc_heap_new (w.alloc (.deferred (some []))) (.loop (R .ready none));rw[World.size_alloc]at this;rw[hW1];exact this
 have hdef:W1.heap[w.heap.size]?=some (.deferred (some [])):=by
  rw[hW1];exact(Below.heap_alloc _ _ _ aj).trans (World.alloc_heap_new w _)
 have hext:Ext w W1:=by rw[hW1];exact(ax.alloc _).alloc _
 have hsize:W1.heap.size=w.heap.size+2:=by rw[hW1];simp
 refine⟨w.heap.size+1,[{target:=.collected w.heap.size,args:=#[]}],W1,{target:=.fn (.func gf) lb,args:=#[.func (.yield (w.heap.size+1)) #[] #[]]},W1,gf,#[.func (.yield (w.heap.size+1)) #[] #[]]++lb,W1,?_,?_,?_,?_,fun _=>h1,?_⟩
 ·rw[hW1,hR];exact run_enterLoop_outer _ _ _ _ _
 ·simp only[resolve,hg];simp[go_sem]
 ·intro f' hf';simp[Target.leads]at hf';subst hf';exact hFg
 ·simp[invoke,go_sem,eg]
 ·have keep:∀(S:Nat→Prop)(W W':World)(o o':Obj),(W.heap[w.heap.size+1]?=some o∧W.heap[w.heap.size]?=some o')→Kp S W W'→¬S w.heap.size→¬S (w.heap.size+1)→W'.heap[w.heap.size+1]?=some o∧W'.heap[w.heap.size]?=some o':=fun S W W' o o' hr k h1 h2=>
   ⟨(k.block _ (Array.getElem?_eq_some_iff.1 hr.1).1 h2).trans hr.1,(k.block _ (Array.getElem?_eq_some_iff.1 hr.2).1 h1).trans hr.2⟩
  refine(hiter (fun W=>W.heap[w.heap.size+1]?=some (.loop (R .ready none))∧W.heap[w.heap.size]?=some (.deferred (some []))) (fun c W=>W.heap[w.heap.size+1]?=some (.loop (R .done (some c)))∧W.heap[w.heap.size]?=some (.deferred (some []))) W1 hext hsize ⟨hloop,hdef⟩ (fun S W W' hr k h1 h2=>keep S W W' _ _ hr k h1 h2) (fun S c W W' hr k h1 h2=>keep S W W' _ _ hr k h1 h2) ?_).mono ?_
  ·rintro x W ⟨hl,hd⟩ hpre;have hlt:w.heap.size+1<W.heap.size:=(Array.getElem?_eq_some_iff.1 hl).1;have hy:=run_yield (P:=P) (args:=encs x) hl (by rw[hR];exact hps x);rw[hR]at hy;refine⟨fn,_,assign,body,hy,roundIn_of_wpIn hfn (hassign x W _ ⟨_,run_beginRound hl (by rw[hR]),?_⟩)⟩;have hl2:(W.putObj (w.heap.size+1) (.loop {R .ready none with state:=.busy})).heap[w.heap.size+1]?=some (.loop {R .ready none with state:=.busy}):=World.putObj_heap_same hlt;have hd2:(W.putObj (w.heap.size+1) (.loop {R .ready none with state:=.busy})).heap[w.heap.size]?=some (.deferred (some [])):=(World.putObj_heap_other af).trans hd;refine wpIn_mono (hbody x _ (ae_ x W _ hpre)) ?_;have fin:∀(jump:Option Code)(W3:World),(W3.heap[w.heap.size+1]?=(W.putObj (w.heap.size+1) (.loop {R .ready none with state:=.busy})).heap[w.heap.size+1]?∧W3.heap[w.heap.size+1-1]?=(W.putObj (w.heap.size+1) (.loop {R .ready none with state:=.busy})).heap[w.heap.size+1-1]?)→
    (Instr.endRound (w.heap.size+1) jump).run P W3=.ok (.bool jump.isNone) (W3.putObj (w.heap.size+1) (.loop (R (if jump.isNone then .ready else .done) jump)))∧
    (W3.putObj (w.heap.size+1) (.loop (R (if jump.isNone then .ready else .done) jump))).heap[w.heap.size+1]?=some (.loop (R (if jump.isNone then .ready else .done) jump))∧
    (W3.putObj (w.heap.size+1) (.loop (R (if jump.isNone then .ready else .done) jump))).heap[w.heap.size]?=some (.deferred (some [])):=fun jump W3 hs=>by
    have hl3:=hs.1.trans hl2;have hd3:=hs.2.trans hd2;have:=run_endRound (P:=P) jump hl3;rw[hR]at this⊢;exact⟨this,World.putObj_heap_same (Array.getElem?_eq_some_iff.1 hl3).1,(World.putObj_heap_other af).trans hd3⟩
   rintro e a3 W3 hp;cases e with
   |normal=>
    obtain⟨hr,hl4,hd4⟩:=fin none W3 hp.1;exact⟨_,_,hr,.inl ⟨rfl,⟨hl4,hd4⟩,afa x W3 _ hp.2⟩⟩
   |ret=>
    obtain⟨hr,hl4,hd4⟩:=fin (some .ret) W3 hp.1;exact⟨_,_,hr,.inr ⟨rfl,.ret,⟨hl4,hd4⟩,Q8 _ x W3 _ hp.2⟩⟩
   |exit id=>
    obtain⟨hr,hl4,hd4⟩:=fin (some (.exit id)) W3 hp.1;exact⟨_,_,hr,.inr ⟨rfl,.exit id,⟨hl4,hd4⟩,Q8 _ x W3 _ hp.2⟩⟩
   |goto t=>
    obtain⟨hr,hl4,hd4⟩:=fin (some (.goto t)) W3 hp.1;exact⟨_,_,hr,.inr ⟨rfl,.goto t,⟨hl4,hd4⟩,Q8 _ x W3 _ hp.2⟩⟩
   |panic ch=>exact hp.elim
   |outgrown=>exact hp.elim
  ·rintro e W2 ⟨⟨v,rfl⟩,(⟨⟨hl,hd⟩,hf⟩|⟨c,⟨hl,hd⟩,hf⟩)⟩
   ·refine⟨none,_,by have:=run_endLoop (P:=P) hl (by rw[hR];simp);rw[hR]at this;exact this,hdone _ (afb _ _ hf) ((World.putObj_heap_other af).trans hd)⟩
   ·refine⟨some c,_,by have:=run_endLoop (P:=P) hl (by rw[hR];simp);rw[hR]at this;exact this,hstop c _ (afc c _ _ hf) ((World.putObj_heap_other af).trans hd)⟩
end
section
open Go.Shelf
attribute[local go_sem]Oper.semAt_some
theorem TR (w:World)(P:Nat):Calls Tryz.prog 108 #[PtrTo P 14] w fun e w'=>e=.returned (.func (.func 129) #[] #[PtrTo w.heap.size 0])∧w'=w.alloc (.cells #[PtrTo P 14] 173):=by
 go_enter Tryz.func108,Tryz.ntmps108
 go_wp2_with fail
 go_ret;exact⟨rfl,rfl⟩
abbrev jw (r:Pl.Rw)(j:Nat):Pl.Rw:=(Pl.iter Pl.iR j ([],r)).2
def C9 (r:Pl.Rw)(cnt:Nat):Prop:=∀j,j<cnt→LH (jw r j)∧0<Pl.eF (jw r j)∧Pl.eF (jw r j)≤1000000000∧(jw r j).columns=r.columns∧∃G rest,LK (jw r j) G rest
theorem Q9 (col:bU)(P:Nat)(m:Pl.Sc)(ps qs:List Nat)(nv av wv hv:Value)(Bx l cnt:Nat)(hcnt:0<cnt)(hok:C9 m.rows cnt)(J:World→Nat)(A:Nat→World→Prop)(Rd:World→Prop)(Dn:Code→World→Prop)(LvF:Code→World→Prop)
 (hbx:∀j W,A j W→W.cell? ⟨Bx,0,none⟩=some (PtrTo P 14)∧J W=j)
 (hRd:∀W W',Rd W→Kp (fun k=>k=P∨col k=.groups) W W'→Rd W')
 (hY:∀j rb W0 W gv,Rd W→j<cnt→fA col W P {m with rows:=jw m.rows (j+1)} ps qs nv av wv hv gv→A j W0→Kp (fun k=>k=P∨col k=.groups) W0 W→W0.heap.size≤rb→bK W rb ((Pl.gG (jw m.rows j)).1.map I) 3→YieldAt Fence.wide 1 Tryz.prog l #[.slice (some ⟨rb,0,none⟩) m.rows.columns m.rows.columns] W fun e W'=>(e=.returned (.bool true)∧Rd W'∧(∃jN,fA col W' P {m with rows:=jw m.rows (j+1)} ps qs nv av wv hv jN)∧A (j+1) W'∧j+1<cnt)∨(e=.returned (.bool false)∧∃c,Dn c W'∧LvF c W'))
 (W:World)(hR0:Rd W)(hrep:∃gv,fA col W P m ps qs nv av wv hv gv)(hA0:A 0 W):
 Calls Tryz.prog 129 #[.func (.yield l) #[] #[],PtrTo Bx 0] W fun e W'=>(∃v,e=.returned v)∧∃c,Dn c W'∧LvF c W':=by
 go_enter Tryz.func129,Tryz.ntmps129
 go_wp2_with fail
 go_loopw [3,4] (fun _ _ wr=>∃(j:Nat)(gv:Value),j<cnt∧Rd wr∧fA col wr P {m with rows:=jw m.rows j} ps qs nv av wv hv gv∧A j wr) (fun _ _ wr=>cnt-J wr)
 case atStart=>
  obtain⟨gv,hr⟩:=hrep;exact⟨0,gv,hcnt,hR0,hr,hA0⟩
 case round=>
  obtain⟨j,gv,hj,hRw,hrw,hAw⟩:=hrel;obtain⟨hRk,hrd,am2,hcl,G,rest,TS⟩:=hok j hj;obtain⟨hb,hJ⟩:=hbx j wr hAw;have hJw:cnt-J wr=cnt-j:=by rw[hJ]
  rw[hJw];have HR:=hide (Ji col wr P {m with rows:=jw m.rows j} ps qs nv av wv hv gv hrw hRk);have HT:=fun u(hu:Ext wr u)=>LM col u P {m with rows:=jw m.rows j} ps qs nv av wv hv gv (hrw.ext hu) G rest TS
  have HY:=hide hY;have HJ:=hide hJ;have HJW:=hide hJw;have HCL:=hide hcl;clear hY hJ hJw hcl hrep hR0 hA0;have hpos:(0:Int)<(Pl.eF (jw m.rows j):Int):=af
  go_upto_region 1 with(first|(go_at_call 107;refine(bH HR).mono ?_;rintro e w1 ⟨rfl,x1⟩)|fail)
  have hb1:w1.cell? ⟨Bx,0,none⟩=some (PtrTo P 14):=x1.cell hb (fun f=>f);have HT1:Calls Tryz.prog 130 #[PtrTo P 14] w1 fun e w'=>∃rb,e=.returned (.slice (some ⟨rb,0,none⟩) m.rows.columns m.rows.columns)∧YieldAt Fence.wide 1 Tryz.prog l #[.slice (some ⟨rb,0,none⟩) m.rows.columns m.rows.columns] w' fun e W'=>(e=.returned (.bool true)∧Rd W'∧(∃jN,fA col W' P {m with rows:=jw m.rows (j+1)} ps qs nv av wv hv jN)∧A (j+1) W'∧j+1<cnt)∨(e=.returned (.bool false)∧∃c,Dn c W'∧LvF c W'):=by
   refine(HT w1 x1).mono ?_;rintro e w2 ⟨rb,rfl,hrb,hBl,⟨jN,hR'⟩,k2⟩;have hcl:=HCL.out;have TT:Kp (fun k=>k=P∨col k=.groups) wr w2:=(x1.mono (fun _ _ f=>f.elim)).trans k2;refine⟨rb,by rw[hcl],(bH HY) j rb wr w2 jN (hRd _ _ hRw TT) hj hR' hAw TT (aO x1.size hrb) hBl⟩
  have HT1:=hide HT1;clear HT hrw;refine(wpIn_wide (n:=2)).1 ?_
  gi_wp2_with (first|(refine⟨trivial,?_⟩;gi_at_call 130;refine(callsIn_wide.2 (bH HT1)).mono ?_;rintro e w2 ⟨rb,rfl,fn,tmps,assign,body,hy,hRn⟩)|fail)
  refine hRn.mono ?_;rintro e W3 (⟨rfl,uR,⟨gv3,hr3⟩,hA3,hlt3⟩|⟨rfl,c,hd,hl⟩)
  ·gi_wp2
   go_wp2_with fail
   refine⟨⟨j+1,gv3,hlt3,uR,hr3,hA3⟩,?_⟩;rw[(hbx _ _ hA3).2];omega
  ·gi_wp2
   go_wp2_with fail
   refine bodyPost_ret (results_none rfl _ _ _) rfl ?_;exact⟨⟨_,rfl⟩,c,hd,hl⟩
end
section
variable{P:Program}{ops:Array Oper}{Q:Exit→Act→World→Prop}{md:Region.Mode}{S:World→Prop}
theorem TU {l n:Nat}{row:String}{args:Array Value}{w:World}{R:Value→World→Prop}(h:Rows P row args w R):RowsIn (Fence.wide.inRound l) n P row args w R:=
 fun c cs _=>let⟨v,w',r,s⟩:=h c cs;⟨v,w',r,stepsIn_wide.2 s⟩
theorem TV {l n i:Nat}{K:Act→World→Prop}{a:Act}{w:World}(hnd:∀o c,ops[i]?=some o→o.op≠.defer c)(hL:¬LetsOut Q)(h:wpOp P ops Q i K a w):wpOpIn (Fence.wide.inRound l) n P ops Q i K a w:=by
 unfold wpOp at h;unfold wpOpIn;cases ho:ops[i]? with
 |none=>rw[ho]at h;exact h
 |some o=>
  rw[ho]at h;simp only at h⊢;split
  ·rename_i hw;rw[if_pos hw]at h;have h:=h.resolve_right (fun e=>hL e.2);refine⟨fun _ _=>trivial,?_⟩;rw[Oper.semAt_eq _ _ _ (fun c=>hnd o c ho)];unfold Oper.wp at h;generalize(execOp a.eval o).run P w=r at*;cases r with
   |ok x w'=>
    cases x<;>simp only[Oper.upon,Oper.uponIn]at h⊢<;>
     first
      |exact h
      |exact⟨fun e=>(by simp[Fence.wide]at e),CallsIn.inRound l (callsIn_wide.2 h)⟩
      |exact⟨fun e=>(by simp[Fence.wide]at e),TU h⟩
   |halt x w'=>cases x<;>simp only[Oper.upon,Oper.uponIn]at h⊢<;>exact h
  ·rename_i hw;rw[if_neg hw]at h;exact⟨fun _ _=>trivial,h⟩
theorem FV {l n:Nat}(hnd:∀(i:Nat)(o:Oper)c,ops[i]?=some o→o.op≠.defer c)(hL:¬LetsOut Q):∀(f:Nat)(listed:Array Bool)(a:Act)(w:World),wpAny P md ops Q f listed a w→wpAnyIn (Fence.wide.inRound l) n P md ops Q f listed a w
 |0,_,_,_,h=>h
 |f+1,_,_,_,h=>⟨h.1,fun i hi=>TV (fun o c=>hnd i o c) hL (wpOp_mono (fun _ _ h'=>FV hnd hL f _ _ _ h') (h.2 i hi))⟩
def vK (ops:Array Oper):Bool:=ops.toList.all fun o=>match o.op with|.defer _=>false|_=>true
theorem vK.out (h:vK ops=true)(i:Nat)(o:Oper)(c)(hi:ops[i]?=some o):o.op≠.defer c:=fun e=>by
 have:=List.all_eq_true.1 h o (Array.mem_toList_iff.2 (Array.mem_of_getElem? hi));rw[e]at this;cases this
def qd (Q:Exit→Act→World→Prop):Exit→Act→World→Prop
 |.normal,a,w=>Q .normal a w
 |_,_,_=>False
theorem qd.of {Q:Exit→Act→World→Prop}{a:Act}{w:World}(h:Q .normal a w):qd Q .normal a w:=h
theorem qd.out {Q:Exit→Act→World→Prop}{e:Exit}{a:Act}{w:World}(h:qd Q e a w):Q e a w:=by
 cases e<;>first|exact h|exact h.elim
theorem Df {l n m id:Nat}{a:Act}{w:World}(S:World→Prop)(hm:P.follows .mixedOrders=true)(hnd:vK ops=true)
 (h:Late P .any ops (qd Q) S n ops.size (Array.replicate ops.size false) a w.drew):(Code.region id ops true).wpIn (Fence.wide.inRound l) m P Q a w:=
 Code.wpIn_mono (fun _ _ _ h=>qd.out h) (wpIn_region_any hm (FV (vK.out hnd) (fun⟨_,_,h⟩=>h) _ _ _ _ (Late.any _ _ _ _ h)))
theorem r_ {n id:Nat}{a:Act}{w:World}(S:World→Prop)(hm:P.follows .mixedOrders=true)
 (h:Late P .any ops (qd Q) S n ops.size (Array.replicate ops.size false) a w.drew):(Code.region id ops true).wp P Q a w:=
 wp_mono (bZ S hm h) (fun _ _ _ h=>qd.out h)
end
def qQ (r:Pl.Rw)(bD j:Nat):List (List Int):=(List.range bD).map fun i=>(Pl.iter Pl.iR j ([],r)).1.map fun row=>row.getD i 0
theorem EL (r:Pl.Rw)(bD j:Nat):(qQ r bD j).length=bD:=by simp[qQ]
theorem TW (r:Pl.Rw)(bD:Nat):qQ r bD 0=List.replicate bD []:=by
 apply List.ext_getElem?;intro i;simp only[qQ,Pl.iter,List.map_nil,aN,List.getElem?_replicate];by_cases hi:i<bD
 ·rw[List.getElem?_range hi,if_pos hi];rfl
 ·rw[bn (by simp;omega),if_neg hi];rfl
theorem LP (r:Pl.Rw):∀j,(Pl.iter Pl.iR j ([],r)).1.length=j
 |0=>rfl
 |j+1=>by rw[show Pl.iter Pl.iR (j+1) ([],r)=Pl.iR (Pl.iter Pl.iR j ([],r))from rfl];simp[Pl.iR,LP r j]
theorem Xh (r:Pl.Rw)(bD j i:Nat)(hi:i<bD):∃l,(qQ r bD j)[i]?=some l∧l.length=j∧(qQ r bD (j+1))[i]?=some (l++[(Pl.gG (jw r j)).1.getD i 0]):=by
 refine⟨(Pl.iter Pl.iR j ([],r)).1.map fun row=>row.getD i 0,?_,by simp[LP],?_⟩
 ·simp only[qQ,aN];rw[List.getElem?_range hi];rfl
 ·simp only[qQ,aN];rw[List.getElem?_range hi,show Pl.iter Pl.iR (j+1) ([],r)=Pl.iR (Pl.iter Pl.iR j ([],r))from rfl];simp[Pl.iR]
def mix {α:Type}(A B:List α)(i:Nat):List α:=A.take i++B.drop i
theorem Xi {α:Type}(A B:List α):mix A B 0=B:=by simp[mix]
theorem aai {α:Type}(A B:List α)(h:A.length=B.length):mix A B B.length=A:=by simp[mix,←h]
theorem aaj {α:Type}(A B:List α)(h:A.length=B.length)(i:Nat):(mix A B i)[i]?=B[i]?:=by
 unfold mix;by_cases hi:i<A.length
 ·rw[aP (by simp;omega)];simp[Nat.min_eq_left (Nat.le_of_lt hi)]
 ·rw[bn (by simp;omega),bn af]
theorem aak {α:Type}(A B:List α)(h:A.length=B.length)(i:Nat)(x:α)(hx:A[i]?=some x):(mix A B i).set i x=mix A B (i+1):=by
 obtain⟨hi,rfl⟩:=aL.1 hx;unfold mix;rw[List.set_append_right _ _ (by simp;omega),show i-(A.take i).length=0 by simp;omega,aV (by omega:i<B.length),List.set_cons_zero,aF hi,aW];rfl
structure LQ (col:bU)(w:World)(P Lb Bc Bl Bx B bD c:Nat)(W:World):Prop where
 c:bK W Bc [.int .i64 (c:Int)] 3
 l:bK W Bl [.slice (some ⟨Lb,0,none⟩) bD bD] 51
 x:bK W Bx [PtrTo P 14] 173
 k:Kp (fun k=>k=P∨col k=.groups) w W
 z:B+2≤W.heap.size
theorem LQ.go {col:bU}{w:World}{P Lb Bc Bl Bx B bD c:Nat}{S:Nat→Prop}{W W':World}(h:LQ col w P Lb Bc Bl Bx B bD c W)(k:Kp S W W')(h1:¬S Bc)(h2:¬S Bl)(h3:¬S Bx)(h4:∀i,i<w.heap.size→S i→i=P∨col i=.groups):LQ col w P Lb Bc Bl Bx B bD c W':=
 ⟨h.c.kept k h1,h.l.kept k h2,h.x.kept k h3,h.k.then k h4,aO h.z k.size⟩
def LU (n0 Bl Bx B g:Nat):Prop:=n0<g∧g≠Bl∧g≠Bx∧g≠B∧g≠B+1
section
variable(col:bU)(w:World)(P:Nat)(m:Pl.Sc)(ps qs:List Nat)(nv av wv hv:Value)(Lb Bl Bx B bD cnt:Nat)
structure DF (j:Nat)(W:World):Prop where
 rep:∃gv,fA col W P {m with rows:=jw m.rows j} ps qs nv av wv hv gv
 lists:∃vs,iM (LU w.heap.size Bl Bx B) W Lb vs (qQ m.rows bD j)
 st:LQ col w P Lb w.heap.size Bl Bx B bD (cnt-j) W
structure TY (j rb:Nat)(W:World):Prop where
 lt:j<cnt
 rep:∃gv,fA col W P {m with rows:=jw m.rows (j+1)} ps qs nv av wv hv gv
 lists:∃vs,iM (LU w.heap.size Bl Bx B) W Lb vs (qQ m.rows bD j)∧∀(i:Nat)v g,vs[i]?=some v→v.ownBlock=some g→g≠rb
 st:LQ col w P Lb w.heap.size Bl Bx B bD (cnt-j) W
 row:bK W rb ((Pl.gG (jw m.rows j)).1.map I) 3
 new:B+2≤rb
end
section
variable{col:bU}{w:World}{P:Nat}{m:Pl.Sc}{ps qs:List Nat}{nv av wv hv:Value}{Lb Bl Bx B bD cnt j rb:Nat}{S:Nat→Prop}{W W':World}
theorem DF.kept (h:DF col w P m ps qs nv av wv hv Lb Bl Bx B bD cnt j W)(k:Kp S W W')(hS:∀i,S i→i=B∨i=B+1)(htop:∀i,w.heap.size≤i→col i=.out)(h1:w.heap.size<B)(h2:Bl<B)(h3:Bx<B):DF col w P m ps qs nv av wv hv Lb Bl Bx B bD cnt j W':=by
 obtain⟨⟨gv,hr⟩,⟨vs,hl⟩,hs⟩:=h;refine⟨⟨gv,hr.kept k (fun i hi=>htop i (by have:=hS i hi;omega))⟩,⟨vs,hl.kept k (fun g hg _ e=>by have:=hS g e;have:=hg.2.2.2;omega)⟩,hs.go k (fun e=>by have:=hS _ e;omega) (fun e=>by have:=hS _ e;omega) (fun e=>by have:=hS _ e;omega) (fun i hi e=>by have:=hS _ e;omega)⟩
theorem TY.kept (h:TY col w P m ps qs nv av wv hv Lb Bl Bx B bD cnt j rb W)(k:Kp S W W')(hS:∀i,S i→i=B∨i=B+1)(htop:∀i,w.heap.size≤i→col i=.out)(h1:w.heap.size<B)(h2:Bl<B)(h3:Bx<B):TY col w P m ps qs nv av wv hv Lb Bl Bx B bD cnt j rb W':=by
 obtain⟨h0,⟨gv,hr⟩,⟨vs,hl,hn⟩,hs,hrow,hnew⟩:=h;exact⟨h0,⟨gv,hr.kept k (fun i hi=>htop i (by have:=hS i hi;omega))⟩,⟨vs,hl.kept k (fun g hg _ e=>by have:=hS g e;have:=hg.2.2.2;omega),hn⟩,hs.go k (fun e=>by have:=hS _ e;omega) (fun e=>by have:=hS _ e;omega) (fun e=>by have:=hS _ e;omega) (fun i hi e=>by have:=hS _ e;omega),hrow.kept k (fun e=>by have:=hS _ e;omega),hnew⟩
end
section
open Go.Shelf
attribute[local go_sem]Oper.semAt_some
theorem LV (col:bU)(w:World)(P:Nat)(m:Pl.Sc)(ps qs:List Nat)(nv av wv hv gv:Value)(h:fA col w P m ps qs nv av wv hv gv)(most:Nat)(amz:most≤1000000)(hr:LH m.rows)(yo:m.rows.columns≤1000)(_hrd:Pl.eF m.rows≤1000000000)
 (hok:Pl.iy m.rows most≤Pl.eF m.rows→C9 m.rows (Pl.iy m.rows most)):
 Calls Tryz.prog 89 #[PtrTo P 14,.int .i64 most] w fun e w'=>((Pl.dQ m.rows most).1=none∧e=.returned (.slice none 0 0)∧Ext w w')∨
  ∃ls Lb vs jN,(Pl.dQ m.rows most).1=some ls∧e=.returned (.slice (some ⟨Lb,0,none⟩) m.rows.columns m.rows.columns)∧iM (fun g=>w.heap.size≤g) w' Lb vs ls∧fA col w' P {m with rows:=(Pl.dQ m.rows most).2} ps qs nv av wv hv jN∧Kp (fun k=>k=P∨col k=.groups) w w':=by
 have PE:=h.blk.cell 14;have TQ:=h.blk.cell 18;simp only[dw,I,au]at PE TQ;obtain⟨cnt,hcnt⟩:∃cnt,cnt=Pl.iy m.rows most:=⟨_,rfl⟩
 have hcl:cnt≤1000000:=by rw[hcnt];unfold Pl.iy;omega
 have hmin:min (most:Int) (m.rows.left:Int)=(cnt:Int):=by rw[hcnt];unfold Pl.iy;omega
 have hL:=hr.left;have htop:=h.inn.top;have FT:=h.blk.lt;rw[←hcnt]at hok;have HC:=hide hcnt;have AL:=hide hok;have HRE:=hide (Ji col);clear hok hcnt;refine(callsIn_wide (n:=3)).1 (callsIn_of_wp_marks Tryz.func89 rfl trivial ?_ rfl);simp only[Tryz.ntmps89,List.size_toArray,aR,List.length_nil,Nat.reduceAdd,Nat.reduceSub,Array.replicate_succ,Array.replicate_zero,List.push_toArray,List.append_toArray,List.nil_append,List.cons_append];refine wpIn_wide.2 ?_
 go_upto_region 2 with fail
 have hif:(if m.rows.left<most then(m.rows.left:Int)else(most:Int))=(cnt:Int):=by rw[←hmin];split<;>omega
 rw[hif];clear hif hmin;have x1:Ext w (w.alloc (.cells #[.int .i64 (cnt:Int)] 3)):=ax.alloc _;have b1:bK (w.alloc (.cells #[.int .i64 (cnt:Int)] 3)) w.heap.size [.int .i64 (cnt:Int)] 3:=bK.bO w [.int .i64 (cnt:Int)] 3;generalize w.alloc (.cells #[.int .i64 (cnt:Int)] 3)=W1 at*;have hS:∀u,Ext W1 u→u.cell? ⟨w.heap.size,0,none⟩=some (.int .i64 (cnt:Int)):=fun u hu=>hu.cell (b1.cell 0) id
 have HS:=hide hS;clear hS;have hx1:Ext W1 W1.drew:=ax.drew;by_cases hz:cnt=0
 ·have HN:Hid ((Pl.dQ m.rows most).1=none):=hide (by unfold Pl.dQ;rw[if_pos (.inl (by rw[←HC.out];exact hz))]);clear AL HC;subst hz;refine r_ (n:=7) (Ext W1) (by kernel_rfl) ?_;refine Late.h HS 0 [1,2,7] rfl hx1 ?_;refine Late.h HS 1 [2,7] rfl hx1 ?_;refine Late.h HS 2 [7] rfl hx1 ?_;refine Late.s 3 [6,7] rfl hx1 ?_;refine Late.s 4 [5,6,7] rfl hx1 ?_;refine Late.s 5 [6,7] rfl hx1 ?_;refine Late.s 6 [7] rfl hx1 ?_;refine Late.o 7 rfl (fun K hK=>?_);go_simp;refine hK _ _ (fun h=>absurd rfl h) ?_;clear hK K;try simp only[lX]
  refine Late.done (by kernel_rfl) (qd.of ?_) _
  go_wp2_with fail
  exact⟨_,results_tmp rfl _ _ _,.inl ⟨HN.out,rfl,x1.trans hx1⟩⟩
 ·have hzd:decide (cnt=0)=false:=aG hz;refine r_ (n:=7) (Ext W1) (by kernel_rfl) ?_;refine Late.h HS 0 [1,2,7] rfl hx1 ?_;refine Late.h HS 1 [2,7] rfl hx1 ?_;refine Late.h HS 2 [7] rfl hx1 ?_;rw[show((cnt:Int)==0)=false from by simp;omega];refine Late.h HS 3 [6,7] rfl hx1 ?_;refine Late.h HS 4 [5,6,7] rfl hx1 ?_;refine Late.o 5 rfl (fun K hK=>?_);refine oK (by rfl) 107 #[PtrTo P 14] (by go_simp) ?_;refine((bH HRE) W1.drew P m ps qs nv av wv hv gv (h.ext (x1.trans hx1)) hr).mono ?_;rintro e w3 ⟨rfl,x3⟩;have hx3:Ext W1 w3:=hx1.trans x3;refine⟨_,rfl,hK _ _ (fun _=>hx3) ?_⟩;clear hK K;try simp only[lX]
  by_cases hd:cnt≤Pl.eF m.rows
  ·have hdi:(cnt:Int)≤(Pl.eF m.rows:Int):=af;have hdn:decide (Pl.eF m.rows<cnt)=false:=aG af;refine Late.t 6 [7] rfl hx3 ?_;refine Late.o 7 rfl (fun K hK=>?_);go_simp;refine hK _ _ (fun h=>absurd rfl h) ?_;clear hK K;try simp only[lX]
   refine Late.done (by kernel_rfl) (qd.of ?_) _;have hOK:=AL.out hd;have h3:=h.ext (x1.trans hx3);have b3:=b1.kept hx3 (fun f=>f);have xw:=x1.trans hx3;have abN:=h3.blk.cell 14;simp only[dw,I,au]at abN;have HN:Hid (Pl.dQ m.rows most=(some ((List.range m.rows.columns).map fun i=>(Pl.iter Pl.iR cnt ([],m.rows)).1.map fun row=>row.getD i 0),(Pl.iter Pl.iR cnt ([],m.rows)).2)):=hide (by unfold Pl.dQ;rw[if_neg (by rw[←HC.out];omega),←HC.out]);have hBl:w.heap.size<w3.heap.size:=b3.lt;have c3:=b3.cell 0;have f3:=b3.free 0;simp only[aA]at c3;clear HS HC AL hzd hdn hdi hd HRE b1 hx1 hx3 x3 x1 PE TQ h;clear W1;generalize hce:m.rows.columns=bD at*;have AO:=hide hce;clear hce
   go_upto_region 5 with(first|(at_make;go_must (refine gT _ rfl _ _ 51 rfl 46 _ 24 Tryz.underlying51 zo rfl bD _ _ rfl rfl af af af af ?_);intro w4 hb4 x4 z4)|fail)
   have x5:Ext w3 (w4.alloc (.cells #[.slice (some ⟨w3.heap.size,0,none⟩) bD bD] 51)):=x4.trans (ax.alloc _);have b5:bK (w4.alloc (.cells #[.slice (some ⟨w3.heap.size,0,none⟩) bD bD] 51)) (w3.heap.size+1) [.slice (some ⟨w3.heap.size,0,none⟩) bD bD] 51:=by rw[←z4];exact bK.bO w4 [.slice (some ⟨w3.heap.size,0,none⟩) bD bD] 51
   have n5:iM (fun g=>w.heap.size<g∧g≠w3.heap.size+1) (w4.alloc (.cells #[.slice (some ⟨w3.heap.size,0,none⟩) bD bD] 51)) w3.heap.size (List.replicate bD (.slice none 0 0)) (List.replicate bD []):=(iM.nil hb4 ⟨af,af⟩).ext (ax.alloc _);have z5:(w4.alloc (.cells #[.slice (some ⟨w3.heap.size,0,none⟩) bD bD] 51)).heap.size=w3.heap.size+2:=by simp[z4]
   generalize w4.alloc (.cells #[.slice (some ⟨w3.heap.size,0,none⟩) bD bD] 51)=W5 at*;have c5:=b5.cell 0;simp only[aA]at c5;have b35:=b3.kept x5 (fun f=>f);clear hb4 x4 z4 b3 c3 f3 abN;clear w4
   go_wp2_with fail
   go_loopw [32] (fun i wr=>∃(k:Nat)(vs:List Value),i=.int .i64 k∧k≤bD∧iM (fun g=>w.heap.size<g∧g≠w3.heap.size+1) wr w3.heap.size vs (List.replicate bD [])∧Kp (fun b=>b=w3.heap.size) W5 wr) (fun i _=>bD-(intOf i).toNat)
   case atStart=>exact⟨0,_,rfl,af,n5,Kp.refl _ _⟩
   case round=>
    obtain⟨k,vs,rfl,hk,hn,hkp⟩:=hrel;by_cases hkl:k<bD
    ·have cl:=hkp.cell c5 aj;have cc:=hkp.cell ((b35.cell 0).trans (by simp:_=some (.int .i64 (cnt:Int)))) (by simp;omega)
     go_wp2_with fail
     have hS:∀u,Ext wr u→u.cell? ⟨w3.heap.size+1,0,none⟩=some (.slice (some ⟨w3.heap.size,0,none⟩) bD bD)∧u.cell? ⟨w.heap.size,0,none⟩=some (.int .i64 (cnt:Int)):=fun u hu=>⟨hu.cell cl id,hu.cell cc id⟩
     have HS:=hide hS;clear hS cl cc;have hx1:Ext wr wr.drew:=ax.drew;refine r_ (n:=5) (Ext wr) (by kernel_rfl) ?_;refine Late.h HS 0 [5] rfl hx1 ?_;refine Late.h HS 1 [5] rfl hx1 ?_;refine Late.h HS 2 [5] rfl hx1 ?_;refine Late.o 3 rfl (fun K hK=>?_);refine OI rfl _ _ 46 rfl 3 (.int .i64 0) 8 Tryz.underlying46 nZ rfl cnt cnt rfl rfl rfl af af ?_;refine hK _ _ (fun _=>hx1.alloc _) ?_;clear hK K;try simp only[lX]
     have xm:Ext wr (wr.drew.alloc (.cells (List.replicate cnt (.int .i64 0)).toArray 3)):=hx1.alloc _;have bm:bK (wr.drew.alloc (.cells (List.replicate cnt (.int .i64 0)).toArray 3)) wr.heap.size (List.replicate cnt (.int .i64 0)) 3:=bK.bO wr.drew _ _;generalize wr.drew.alloc (.cells (List.replicate cnt (.int .i64 0)).toArray 3)=W2 at*;have hwz:wr.drew.heap.size=wr.heap.size:=rfl;try rw[hwz]
     refine Late.o 4 rfl (fun K hK=>?_);go_simp;refine hK _ _ (fun _=>xm) ?_;clear hK K;try simp only[lX]
     obtain⟨v,hv⟩:∃v,vs[k]?=some v:=⟨vs[k]'(by rw[hn.len];simpa using hkl),ay _⟩
     have cs:W2.cell? ⟨w3.heap.size,k,none⟩=some v:=((hn.ext xm).blk.cell k).trans hv;have fs:=(hn.ext xm).blk.free k;refine Late.o 5 rfl (fun K hK=>?_);go_simp;refine hK _ _ (fun h=>absurd rfl h) ?_;clear hK K;try simp only[lX]
     refine Late.done (by kernel_rfl) (qd.of ?_) _;have hsz:=hkp.size;have hnew:=hn.put k v (.slice (some ⟨wr.heap.size,0,none⟩) 0 cnt) [] hv (xm.mono (fun _ _ f=>f.elim)) (bm.aix (by unfold maxLen;omega)) (.inr ⟨wr.heap.size,rfl,aK _⟩) (fun g hg=>⟨af,af⟩);rw[List.set_replicate_self]at hnew;have k6:Kp (fun b=>b=w3.heap.size) W5 (W2.setCell ⟨w3.heap.size,k,none⟩ (.slice (some ⟨wr.heap.size,0,none⟩) 0 cnt)):=(hkp.trans (xm.mono (fun _ _ f=>f.elim))).trans (bI _ _ _ _);clear cs fs;generalize W2.setCell ⟨w3.heap.size,k,none⟩ (.slice (some ⟨wr.heap.size,0,none⟩) 0 cnt)=W6 at*
     go_wp2_with fail
     exact⟨⟨k+1,_,by go_num,af,hnew,k6⟩,by simp[intOf];omega⟩
    ·have hke:k=bD:=af;subst hke
     go_wp2_with (first|(go_at_call 108;refine(TR _ P).mono ?_;rintro e w' ⟨rfl,rfl⟩)|fail)
     have am3:=hkp.size;have h6:fA col (wr.alloc (.cells #[PtrTo P 14] 173)) P m ps qs nv av wv hv gv:=((h3.ext x5).kept hkp (fun i e=>h3.inn.top i af)).ext (ax.alloc _);have n6:iM (LU w.heap.size (w3.heap.size+1) wr.heap.size (wr.heap.size+1)) (wr.alloc (.cells #[PtrTo P 14] 173)) w3.heap.size vs (List.replicate k []):=(hn.Ad (C':=LU w.heap.size (w3.heap.size+1) wr.heap.size (wr.heap.size+1)) (fun g h1 h2=>⟨h1.1,h1.2,af,af,af⟩)).ext (ax.alloc _);have bc6:bK (wr.alloc (.cells #[PtrTo P 14] 173)) w.heap.size [.int .i64 (cnt:Int)] 3:=(b35.kept hkp af).kept (S:=fun _=>False) (ax.alloc _) id;have bl6:bK (wr.alloc (.cells #[PtrTo P 14] 173)) (w3.heap.size+1) [.slice (some ⟨w3.heap.size,0,none⟩) k k] 51:=(b5.kept hkp af).kept (S:=fun _=>False) (ax.alloc _) id;have bx6:bK (wr.alloc (.cells #[PtrTo P 14] 173)) wr.heap.size [PtrTo P 14] 173:=bK.bO wr [PtrTo P 14] 173;have k6:Ext w (wr.alloc (.cells #[PtrTo P 14] 173)):=((xw.trans x5).then hkp (fun i hi e=>af)).alloc _;have z6:(wr.alloc (.cells #[PtrTo P 14] 173)).heap.size=wr.heap.size+1:=aj;generalize wr.alloc (.cells #[PtrTo P 14] 173)=W6 at*;clear hn hkp b35 b5 n5 h3 x5 c5 xw hk hkl;have YT:=hide z5;clear z5;have hB:w.heap.size<W6.heap.size:=by have:=YT.out;omega
     have LW:w3.heap.size+1<W6.heap.size:=by have:=YT.out;omega
     have hBx:wr.heap.size<W6.heap.size:=af;rw[←z6]at n6;have HZ6:=hide z6;clear z6;refine wpIn_wide.1 (Kv (F:=Fence.wide) (n:=3) (α:=Nat×Nat) rfl af (gf:=129) (lb:=#[PtrTo wr.heap.size 0]) rfl trivial (enters_of Tryz.func129 (by kernel_rfl) rfl)
      (fun x=>#[.slice (some ⟨x.2,0,none⟩) k k]) (fun _=>rfl)
      (fun x W=>TY col w P m ps qs nv av wv hv w3.heap.size (w3.heap.size+1) wr.heap.size W6.heap.size k cnt x.1 x.2 W)
      (fun x W=>x.1+1<cnt∧DF col w P m ps qs nv av wv hv w3.heap.size (w3.heap.size+1) wr.heap.size W6.heap.size k cnt (x.1+1) W)
      (fun c x W=>c=.exit 2∧x.1+1=cnt∧DF col w P m ps qs nv av wv hv w3.heap.size (w3.heap.size+1) wr.heap.size W6.heap.size k cnt (x.1+1) W)
      (fun _=>False)
      (fun c W=>c=.exit 2∧DF col w P m ps qs nv av wv hv w3.heap.size (w3.heap.size+1) wr.heap.size W6.heap.size k cnt cnt W)
      (fun x W o hp=>hp.kept (uQ W _ o) (fun i e=>.inr e) htop hB LW hBx)
      (fun x W o hp=>⟨hp.1,hp.2.kept (uQ W _ o) (fun i e=>.inr e) htop hB LW hBx⟩)
      (fun c x W o hp=>⟨hp.1,hp.2.1,hp.2.2.kept (uQ W _ o) (fun i e=>.inr e) htop hB LW hBx⟩)
      (fun _ _ f=>f)
      (fun c W o hp=>⟨hp.1,hp.2.kept (uQ W _ o) (fun i e=>.inr e) htop hB LW hBx⟩)
      ?a1 ?assign ?body ?iter (fun _ f _=>f.elim) ?stop)
     case assign=>
      intro x W K hK
      gi_wp2
      exact hK
     case body=>
      generalize wr.heap.size=Bx at*;rintro⟨j,rb⟩ W ⟨hj,⟨gvr,hrep⟩,⟨vs0,hl0,hne0⟩,hst,hrow,hnew⟩;obtain⟨-,-,-,Q_,G,rest,TS⟩:=hOK j hj;obtain⟨row,hre⟩:∃row,row=(Pl.gG (jw m.rows j)).1:=⟨_,rfl⟩
      have hrl:row.length=k:=by rw[hre,←AO.out,←Q_,←TS.bD];unfold Pl.gG;rw[TS.groups];simp
      have hget:=fun i(hi:i<k)=>Xh m.rows k j i hi
      rw[←hre]at hrow hget;have HG:=hide hget;have YU:=hide hrl;obtain⟨c,hc⟩:∃c,cnt-j=c+1:=⟨cnt-j-1,af⟩
      have hc2:cnt-(j+1)=c:=af;have oC:=hide hc2;rw[hc]at hst;have kL:=hide hc;have hAL:(qQ m.rows k (j+1)).length=(qQ m.rows k j).length:=by rw[EL,EL]
      have FW:=hide hAL;obtain⟨A,hA⟩:∃A,A=qQ m.rows k (j+1):=⟨_,rfl⟩
      obtain⟨Bb,hBb⟩:∃Bb,Bb=qQ m.rows k j:=⟨_,rfl⟩
      rw[←hA,←hBb]at FW;have aiy:Hid (Bb.length=k):=hide (by rw[hBb,EL]);rw[←hBb]at hl0;rw[←hA,←hBb]at HG;clear hget hrl hc hc2 hAL TS Q_ hre;have HA:=hide hA;clear hA hBb;have H_:=hrow.lt;have hrB:=hst.z;dsimp only
      gi_wp2_with fail
      gi_loopw [46] (fun i wr'=>∃(i0:Nat)(vs:List Value),i=.int .i64 i0∧i0≤k∧iM (LU w.heap.size (w3.heap.size+1) Bx W6.heap.size) wr' w3.heap.size vs (mix A Bb i0)∧(∀(i:Nat)v g,vs[i]?=some v→v.ownBlock=some g→g≠rb)∧Kp (fun g=>LU w.heap.size (w3.heap.size+1) Bx W6.heap.size g∧g≠rb) W wr') (fun i _=>k-(intOf i).toNat)
      case atStart=>exact⟨0,vs0,rfl,aM _,by rw[Xi];exact hl0,hne0,Kp.refl _ _⟩
      case round=>
       obtain⟨i0,vs1,rfl,hi0,hn,hne,hkp⟩:=hrel;have hkz:=hkp.size;by_cases hik:i0<k
       ·obtain⟨l,hl1,hl2,hl3⟩:=HG.out i0 hik;have hm:=(aaj A Bb FW.out i0).trans hl1;obtain⟨v,hv⟩:∃v,vs1[i0]?=some v:=⟨vs1[i0]'(by rw[hn.len];exact(aL.1 hm).1),ay _⟩
        have ho:=hn.own i0 v l hv hm;obtain⟨va,vc,rfl,YS⟩:=ho.shape;have hll:l.length≤1000000:=af;have HL2:=hide hl2;clear hl2;have cr:wr.cell? ⟨rb,i0,none⟩=some (.int .i64 (row.getD i0 0)):=hkp.cell ((hrow.cell i0).trans (by rw[aN,ay (by rw[YU.out];exact hik)];simp[List.getD,ay (show i0<row.length by rw[YU.out];exact hik)];rfl)) (fun e=>e.2 rfl);have cl:=hkp.cell ((hst.l.cell 0).trans (by simp:_=some (.slice (some ⟨w3.heap.size,0,none⟩) k k))) (fun e=>e.1.2.1 rfl);have cv:=(hn.blk.cell i0).trans hv;generalize row.getD i0 0=xv at*
        gi_wp2_with fail
        have hS:∀u,Kp (fun b=>b≠w3.heap.size+1∧b≠w3.heap.size) wr u→u.cell? ⟨w3.heap.size+1,0,none⟩=some (.slice (some ⟨w3.heap.size,0,none⟩) k k)∧u.cell? ⟨w3.heap.size,i0,none⟩=some (.slice va l.length vc):=fun u hu=>⟨hu.cell cl aj,hu.cell cv aj⟩
        have HS:=hide hS;clear hS cl;have hx1:Kp (fun b=>b≠w3.heap.size+1∧b≠w3.heap.size) wr wr.drew:=ax.drew;refine Df (n:=10) (Kp (fun b=>b≠w3.heap.size+1∧b≠w3.heap.size) wr) (by kernel_rfl) (by kernel_rfl) ?_;refine Late.h HS 0 [10] rfl hx1 ?_;refine Late.h HS 1 [10] rfl hx1 ?_;refine Late.h HS 2 [10] rfl hx1 ?_;refine Late.h HS 3 [10] rfl hx1 ?_;refine Late.h HS 4 [10] rfl hx1 ?_;refine Late.h HS 5 [10] rfl hx1 ?_;refine Late.h HS 6 [10] rfl hx1 ?_;refine Late.o 7 rfl (fun K hK=>?_);go_simp;refine hK _ _ (fun _=>hx1.alloc _) ?_;clear hK K;try simp only[lX]
        refine Late.o 8 rfl (fun K hK=>?_);refine d_ rfl _ _ 46 46 rfl 3 (.int .i64 0) 1 8 Tryz.underlying46 nZ rfl _ _ _ (by rfl) (ho.ext (ax.drew.alloc _)) _ (by rfl) 1 _ (dO wr.drew wr.drew.heap.size rfl _ _ Tryz.underlying46 _ [.int .i64 xv] rfl (by intro u hu;simp at hu;subst hu;rfl)) af af ?_;intro v' w5 o5 k5 s5;have g5:Kp (fun b=>b≠w3.heap.size+1∧b≠w3.heap.size) wr w5:=(hx1.alloc _).trans (k5.mono (fun i _ e=>⟨(hn.si i0 _ i hv e).1.2.1,(hn.si i0 _ i hv e).2⟩));refine hK _ _ (fun _=>g5) ?_;clear hK K;obtain⟨a',c',rfl,hc'⟩:=o5.shape;try simp only[lX]
        have cv5:=g5.cell cv aj;have fv5:=(hn.blk.kept g5 aj).free i0;refine Late.o 9 rfl (fun K hK=>?_);go_simp;refine hK _ _ (fun _=>g5) ?_;clear hK K;try simp only[lX]
        refine Late.o 10 rfl (fun K hK=>?_);go_simp;refine hK _ _ (fun h=>absurd rfl h) ?_;clear hK K;try simp only[lX]
        refine Late.done (by kernel_rfl) (qd.of ?_) _;have Jl:Kp (Of (.slice va l.length vc)) wr w5:=(ax.drew.alloc _).trans k5;have T9:Sep wr (.slice va l.length vc) (.slice a' (l.length+1) c'):=Sep.mono aj s5;have hnew2:=hn.put i0 _ (.slice a' (l.length+1) c') (l++[xv]) hv Jl (by rw[aD,a_];exact o5) T9 (fun g hg=>⟨af,af,af,af,af⟩);rw[aak A Bb FW.out i0 _ hl3]at hnew2;have k9:Kp (fun g=>LU w.heap.size (w3.heap.size+1) Bx W6.heap.size g∧g≠rb) W (w5.setCell ⟨w3.heap.size,i0,none⟩ (.slice a' (l.length+1) c')):=
         (hkp.trans (Jl.mono (fun i _ e=>⟨(hn.si i0 _ i hv e).1,hne i0 _ i hv e⟩))).trans ((bI _ _ _ _).mono (fun i _ e=>by rw[e];exact⟨hn.new,af⟩))
        have aiz:∀(i:Nat)v g,(vs1.set i0 (.slice a' (l.length+1) c'))[i]?=some v→v.ownBlock=some g→g≠rb:=fun i v g h1 h2=>by
         by_cases hii:i=i0
         ·subst hii;rw[List.getElem?_set_self (aL.1 hv).1]at h1;cases h1;rcases T9 with e|⟨g',e1,e2⟩
          ·rw[e]at h2;exact hne i _ g hv h2
          ·rw[e1]at h2;simp only[Option.some.injEq]at h2;omega
         ·rw[List.getElem?_set_ne (Ne.symm hii)]at h1;exact hne i v g h1 h2
        clear cv5 fv5 cv cr;generalize w5.setCell ⟨w3.heap.size,i0,none⟩ (.slice a' (l.length+1) c')=W9 at*
        gi_wp2_with fail
        exact⟨⟨i0+1,_,by go_num,af,hnew2,aiz,k9⟩,by simp[intOf];omega⟩
       ·have hie:i0=k:=af;subst hie;have hmx:mix A Bb i0=A:=by have:=aai A Bb FW.out;rwa[aiy.out]at this
        rw[hmx]at hn;clear hmx;have bc9:=hst.c.kept hkp (fun e=>by have:=e.1.1;omega);have cc:=bc9.cell 0;have fc:=bc9.free 0;simp only[aA]at cc;have hcb:c≤1000000:=by have:=kL.out;omega
        have ks:=bI wr w.heap.size 0 (.int .i64 (c:Int));have rZ:Kp (fun g=>w.heap.size≤g∧g≠w3.heap.size+1∧g≠Bx∧g≠W6.heap.size∧g≠W6.heap.size+1) W (wr.setCell ⟨w.heap.size,0,none⟩ (.int .i64 (c:Int))):=
         (hkp.mono (fun i _ e=>⟨Nat.le_of_lt e.1.1,e.1.2⟩)).trans (ks.mono (fun i _ e=>by have:=YT.out;omega))
        have nb:DF col w P m ps qs nv av wv hv w3.heap.size (w3.heap.size+1) Bx W6.heap.size i0 cnt (j+1) (wr.setCell ⟨w.heap.size,0,none⟩ (.int .i64 (c:Int))):=by
         refine⟨⟨gvr,hrep.kept rZ (fun i e=>htop i e.1)⟩,⟨vs1,?_⟩,?_⟩
         ·rw[←HA.out];exact hn.kept ks (fun g hg _ e=>by have:=hg.1;omega)
         ·rw[oC.out];exact⟨by simpa using bc9.set 0 (.int .i64 (c:Int)),hst.l.kept rZ (fun e=>e.2.1 rfl),hst.x.kept rZ (fun e=>e.2.2.1 rfl),hst.k.then rZ (fun i hi e=>by have:=e.1;omega),aO hst.z rZ.size⟩
        have hh:(wr.setCell ⟨w.heap.size,0,none⟩ (.int .i64 (c:Int))).heap[W6.heap.size+1]?=W.heap[W6.heap.size+1]?∧(wr.setCell ⟨w.heap.size,0,none⟩ (.int .i64 (c:Int))).heap[W6.heap.size+1-1]?=W.heap[W6.heap.size+1-1]?:=
         ⟨rZ.block _ af (fun e=>e.2.2.2.2 rfl),rZ.block _ af (fun e=>e.2.2.2.1 rfl)⟩
        have NBH:=hide nb;have HHH:=hide hh;clear nb hh rZ ks
        gi_wp2_with fail
        ·rename_i hb0;have hb0:(c:Int)=0:=by simpa using hb0
         exact⟨HHH.out,rfl,by have:=kL.out;show j+1=cnt;omega,NBH.out⟩
        ·rename_i hb0;have hb0:¬(c:Int)=0:=by simpa using hb0
         exact⟨HHH.out,by have:=kL.out;show j+1<cnt;omega,NBH.out⟩
     case iter=>
      intro Rd Dn W1 x1 hz1 aiA hRd hDn hY;have yt:∀i,w.heap.size≤i→¬(i=P∨col i=.groups):=fun i hi e=>by
       rcases e with e|e
       ·omega
       ·rw[htop i hi]at e;cases e
      have hA0:DF col w P m ps qs nv av wv hv w3.heap.size (w3.heap.size+1) wr.heap.size W6.heap.size k cnt 0 W1:=by
       refine⟨⟨gv,h6.ext x1⟩,⟨vs,?_⟩,bc6.kept x1 (fun f=>f),bl6.kept x1 (fun f=>f),bx6.kept x1 (fun f=>f),Kp.cZ (k6.trans x1),af⟩;rw[TW];exact n6.ext x1
      refine(callsIn_wide.2 (Q9 col P m ps qs nv av wv hv wr.heap.size (W6.heap.size+1) cnt af hOK (fun W=>match W.cell? ⟨w.heap.size,0,none⟩with|some v=>cnt-(intOf v).toNat|none=>0) (fun j W=>j≤cnt∧DF col w P m ps qs nv av wv hv w3.heap.size (w3.heap.size+1) wr.heap.size W6.heap.size k cnt j W) Rd Dn
       (fun c W=>c=.exit 2∧DF col w P m ps qs nv av wv hv w3.heap.size (w3.heap.size+1) wr.heap.size W6.heap.size k cnt cnt W) ?_ (fun W W' hr hk=>hRd _ W W' hr hk (yt _ af) (yt _ af)) ?_ W1 aiA ⟨gv,h6.ext x1⟩ ⟨aM _,hA0⟩)).mono ?_
      ·rintro j W ⟨hj,hb⟩;refine⟨hb.st.x.cell 0,?_⟩;have:=hb.st.c.cell 0;simp only[aA]at this;simp only[this,intOf,Int.toNat_natCast];omega
      ·rintro j rb W0 W jN hRW hj hrep ⟨hjc,hb⟩ TT hrb hBl;have hz:=hb.st.z;obtain⟨vs',hl⟩:=hb.lists;have hpre:TY col w P m ps qs nv av wv hv w3.heap.size (w3.heap.size+1) wr.heap.size W6.heap.size k cnt j rb W:=by
        refine⟨hj,⟨jN,hrep⟩,⟨vs',hl.kept TT (fun g hg _=>yt g (Nat.le_of_lt hg.1)),fun i v g hv hg e=>?_⟩,hb.st.go TT (yt _ (aK _)) (yt _ af) (yt _ (by have:=YT.out;omega)) (fun i _ e=>e),hBl,af⟩;have:=hl.lt i v g hv hg;omega
       rw[AO.out];refine YieldAt.mono (hY (j,rb) W hRW hpre) ?_;rintro e W' (⟨rfl,h1,h2,h3⟩|⟨rfl,c,h1,h2,h3,h4⟩)
       ·exact .inl ⟨rfl,h1,h3.rep,⟨Nat.le_of_lt h2,h3⟩,h2⟩
       ·refine .inr ⟨rfl,c,h1,h2,?_⟩;have h3:j+1=cnt:=h3;have h4:=h4;simp only at h4;rw[h3]at h4;exact h4
      ·rintro e W' ⟨hv,c,h1,h2⟩;exact⟨hv,.inr ⟨c,h1,h2⟩⟩
     case stop=>
      rintro c W ⟨rfl,hb⟩ hD;have cl:=hb.st.l.cell 0;simp only[aA]at cl
      gi_wp2
      go_wp2_with fail
      refine⟨aj,.inl ⟨_,_,rfl,run_takeDeferred hD,?_⟩⟩;obtain⟨⟨gv9,r9⟩,⟨vs9,n9⟩,s9⟩:=hb.kept (uQ W W6.heap.size (.deferred none)) (fun i e=>.inl e) htop hB LW hBx;exact⟨_,results_tmp rfl _ _ _,.inr ⟨qQ m.rows k cnt,w3.heap.size,vs9,gv9,by rw[HN.out];rfl,by rw[AO.out];rfl,n9.Ad (fun g h _=>Nat.le_of_lt h.1),by rw[HN.out];exact r9,s9.k⟩⟩
  ·have hdi:decide (Pl.eF m.rows<cnt)=true:=aH af;refine Late.t 6 [7] rfl hx3 ?_;refine Late.o 7 rfl (fun K hK=>?_);go_simp;refine hK _ _ (fun h=>absurd rfl h) ?_;clear hK K;try simp only[lX]
   refine Late.done (by kernel_rfl) (qd.of ?_) _;have HN:(Pl.dQ m.rows most).1=none:=by unfold Pl.dQ;rw[if_pos (.inr (by rw[←HC.out];omega))]
   have HN:=hide HN
   go_wp2_with fail
   exact⟨_,results_tmp rfl _ _ _,.inl ⟨HN.out,rfl,x1.trans hx3⟩⟩
end
end Go.Proofs.YthicgffppmbamaaGreat
