import Derived.StillTailTactics
import Derived.LoopN
import Derived.Test.YthicgffppmbamaaGreatP3
set_option maxRecDepth 100000
set_option maxHeartbeats 16000000
namespace Go.Proofs.YthicgffppmbamaaGreat
open Go.RowKit
def dA (x:Pl.eU):List Value:=[I x.group,I x.want,I x.page.place,I x.page.length,tx (Pl.dz x.page.sum)]
def jG (col:bU)(w:World)(v:Value)(l:List Pl.eU):Prop:=bM (fun b=>col b=.ro) false w 5 v l.length (l.flatMap dA)
def dx (pv:Value)(p:Pl.bQ):List Value:=[I p.kind,I p.place,I p.length,tx p.got,I p.failed,I p.id,I p.due,I p.turn,pv]
def kU (bJ:List Value)(l:List Pl.bQ):List Value:=(List.zipWith dx bJ l).flatten
def Br (col:bU)(w:World)(g:Nat)(v:Value)(ls:List (List Int)):Prop:=
 ∃vs:List Value,vs.length=ls.length∧bM (fun b=>col b=.lists g) true w 1 v ls.length vs∧∀(i:Nat)(u:Value)(l:List Int),vs[i]?=some u→ls[i]?=some l→bM (fun b=>col b=.ro) false w 1 u l.length (l.map I)∧(l=[]→u=.slice none 0 0)
theorem Br.go {col bV:bU}{S:Nat→Prop}{w w':World}{g:Nat}{v:Value}{ls:List (List Int)}(h:Br col w g v ls)(k:Kp S w w')(hg:∀i,S i→col i≠.lists g)(hS:∀i,S i→col i≠.ro)(hc:∀i,i<w.heap.size→bV i=col i):Br bV w' g v ls:=by
 obtain⟨vs,h1,h2,h3⟩:=h;exact⟨vs,h1,h2.go k (fun i hi hs=>hg i hs hi) (fun i hlt hi=>by rw[hc i hlt];exact hi),fun i u l a b=>⟨(h3 i u l a b).1.go k (fun i hi hs=>hS i hs hi) (fun i hlt hi=>by rw[hc i hlt];exact hi),(h3 i u l a b).2⟩⟩
def ru (col:bU)(w:World)(v:Value)(ls:List (List (List Int))):Prop:=
 ∃eG:List Value,eG.length=ls.length∧bM (fun b=>col b=.groups) true w 1 v ls.length eG∧∀(i:Nat)(lv:Value)(l:List (List Int)),eG[i]?=some lv→ls[i]?=some l→Br col w i lv l
def dm (r:Pl.cO)(nv pv rv tv:Value):List Value:=[I r.size,nv,I r.win,I r.tries,I r.dh,I r.gap,I r.state,pv,I r.made,I r.now,I r.fails,rv,tv,I r.next]
structure Bt (col:bU)(w:World)(Y:Nat)(r:Pl.cO)(bJ:List Value)(nv pv rv tv:Value):Prop where
 gP:col Y=.scan
 top:∀k,w.heap.size≤k→col k=.out
 names:bM (fun b=>col b=.ro) false w 1 nv r.want.length (r.want.map tx)
 iA:bJ.length=r.pieces.length
 pieces:Own w 9 pv r.pieces.length (kU bJ r.pieces)
 cB:∀g,pv.ownBlock=some g→col g=.asked
 parts:∀(i:Nat)(x:Value)(p:Pl.bQ),bJ[i]?=some x→r.pieces[i]?=some p→jG col w x p.parts
 rows:bM (fun b=>col b=.ro) false w 1 rv r.rows.length (r.rows.map fun(n:Nat)=>I n)
 there:ru col w tv r.there
structure dK (col:bU)(w:World)(Y:Nat)(r:Pl.cO)(bJ:List Value)(nv pv rv tv:Value):Prop where
 blk:bK w Y (dm r nv pv rv tv) 118
 inn:Bt col w Y r bJ nv pv rv tv
theorem ru.go {col bV:bU}{S:Nat→Prop}{w w':World}{v:Value}{ls:List (List (List Int))}(h:ru col w v ls)(k:Kp S w w')(hg:∀i,S i→col i≠.groups)(hl:∀g i,S i→col i≠.lists g)(hS:∀i,S i→col i≠.ro)(hc:∀i,i<w.heap.size→bV i=col i):ru bV w' v ls:=by
 obtain⟨eG,h1,h2,h3⟩:=h;exact⟨eG,h1,h2.go k (fun i hi hs=>hg i hs hi) (fun i hlt e=>by rw[hc i hlt];exact e),fun i lv l a b=>(h3 i lv l a b).go k (hl _) hS hc⟩
theorem ru.nil (col:bU)(w:World):ru col w (.slice none 0 0) []:=⟨[],rfl,bM.nil _ _ _ _,fun i _ _ a=>by simp at a⟩
theorem Bt.go {col bV:bU}{S:Nat→Prop}{w w':World}{Y:Nat}{r:Pl.cO}{bJ:List Value}{nv pv rv tv:Value}(h:Bt col w Y r bJ nv pv rv tv)(k:Kp S w w')(hY:Y<w.heap.size)(hS:Calm col S)(hp:∀g,pv.ownBlock=some g→¬S g)(hc:∀i,i<w.heap.size→bV i=col i)(ht:∀i,w'.heap.size≤i→bV i=.out):Bt bV w' Y r bJ nv pv rv tv:=
 ⟨by rw[hc Y hY];exact h.gP,ht,h.names.go k (fun i hi hs=>hS.ro i hs hi) (fun i hlt e=>by rw[hc i hlt];exact e),h.iA,h.pieces.kept k hp,fun g hg=>by rw[hc g (h.pieces.lt hg)];exact h.cB g hg,
  fun i x p a b=>(h.parts i x p a b).go k (fun i hi hs=>hS.ro i hs hi) (fun i hlt e=>by rw[hc i hlt];exact e),
  h.rows.go k (fun i hi hs=>hS.ro i hs hi) (fun i hlt e=>by rw[hc i hlt];exact e),h.there.go k hS.groups hS.lists hS.ro hc⟩
theorem dK.kept {col:bU}{S:Nat→Prop}{w w':World}{Y:Nat}{r:Pl.cO}{bJ:List Value}{nv pv rv tv:Value}(h:dK col w Y r bJ nv pv rv tv)(k:Kp S w w')(hS:∀i,S i→col i=.out):dK col w' Y r bJ nv pv rv tv:=by
 have hcm:Calm col S:=Calm.one .out hS aj aj aj aj aj;exact⟨h.blk.kept k (fun e=>by have:=hS Y e;rw[h.inn.gP]at this;simp at this),h.inn.go k h.blk.lt hcm (fun g hg e=>by have:=hS g e;rw[h.inn.cB g hg]at this;simp at this) (fun _ _=>rfl) (fun i hi=>h.inn.top i (aO k.size hi))⟩
theorem dK.ext {col:bU}{w w':World}{Y:Nat}{r:Pl.cO}{bJ:List Value}{nv pv rv tv:Value}(h:dK col w Y r bJ nv pv rv tv)(k:Ext w w'):dK col w' Y r bJ nv pv rv tv:=h.kept k (fun _ f=>f.elim)
theorem dK.p8 {col:bU}{w:World}{Y:Nat}{r r':Pl.cO}{bJ:List Value}{nv pv rv tv Bg pv' rv' tv':Value}(h:dK col w Y r bJ nv pv rv tv)(j:Nat)(v:Value)(e:(dm r nv pv rv tv).set j v=dm r' Bg pv' rv' tv')(hi:Bt col w Y r' bJ Bg pv' rv' tv'):
 dK col (w.setCell ⟨Y,j,none⟩ v) Y r' bJ Bg pv' rv' tv':=by
 have k:=bI w Y j v;have hcm:Calm col (fun k=>k=Y):=Calm.one .scan (fun i hi=>by rw[hi];exact h.inn.gP) aj aj aj aj aj;refine⟨by have:=h.blk.set j v;rw[e]at this;exact this,hi.go k h.blk.lt hcm (fun g hg e=>?_) (fun _ _=>rfl) (fun i hi'=>h.inn.top i (aO k.size hi'))⟩;have:=hi.cB g hg;rw[e,h.inn.gP]at this;simp at this
def I5 (col:bU)(w:World)(Y:Nat)(r:Pl.cO):Prop:=∃bJ nv pv rv tv,dK col w Y r bJ nv pv rv tv
theorem I5.kept {col:bU}{S:Nat→Prop}{w w':World}{Y:Nat}{r:Pl.cO}(h:I5 col w Y r)(k:Kp S w w')(hS:∀i,S i→col i=.out):I5 col w' Y r:=by
 obtain⟨bJ,nv,pv,rv,tv,x⟩:=h;exact⟨bJ,nv,pv,rv,tv,x.kept k hS⟩
def l6 (col:bU)(w:World)(Y:Nat)(r:Pl.cO):Prop:=∃bJ nv pv rv tv,dK col w Y r bJ nv pv rv tv∧(r.there=[]→tv=.slice none 0 0)
theorem l6.K_ {col:bU}{w:World}{Y:Nat}{r:Pl.cO}(h:l6 col w Y r):I5 col w Y r:=by
 obtain⟨bJ,nv,pv,rv,tv,h,-⟩:=h;exact⟨bJ,nv,pv,rv,tv,h⟩
theorem l6.kept {col:bU}{S:Nat→Prop}{w w':World}{Y:Nat}{r:Pl.cO}(h:l6 col w Y r)(k:Kp S w w')(hS:∀i,S i→col i=.out):l6 col w' Y r:=by
 obtain⟨bJ,nv,pv,rv,tv,h,ht⟩:=h;exact⟨bJ,nv,pv,rv,tv,h.kept k hS,ht⟩
theorem l6.top {col:bU}{w:World}{Y:Nat}{r:Pl.cO}(h:l6 col w Y r):∀b,w.heap.size≤b→col b=.out:=by
 obtain⟨bJ,nv,pv,rv,tv,h,-⟩:=h;exact h.inn.top
theorem Lc (bJ:List Value)(l:List Pl.bQ)(hl:bJ.length=l.length)(i j:Nat)(hi:i<l.length)(hj:j<9):(kU bJ l)[i*9+j]?=(dx (bJ[i]'af) l[i])[j]?:=by
 unfold kU;refine jB 9 _ (fun e he=>?_) i j hj _ ?_
 ·rw[List.mem_iff_getElem]at he;obtain⟨k,hk,rfl⟩:=he;rw[List.getElem_zipWith];rfl
 ·rw[ay (by simp;omega),List.getElem_zipWith]
theorem I6 (bJ:List Value):∀(l:List Pl.bQ)(_:bJ.length=l.length)(i j:Nat)(v:Value)(f:Pl.bQ→Pl.bQ),i<l.length→j<9→(∀pv p,(dx pv p).set j v=dx pv (f p))→(kU bJ l).set (i*9+j) v=kU bJ (l.modify i f):=by
 induction bJ with
 |nil=>intro l hl i j v f hi _ _;simp at hl;omega
 |cons pv r ih=>
  intro l hl i j v f hi hj hf;cases l with
  |nil=>simp at hi
  |cons p t=>
   unfold kU at*;cases i with
   |zero=>
    simp only[List.zipWith_cons_cons,List.flatten_cons,List.modify_zero_cons,Nat.zero_mul,Nat.zero_add];rw[List.set_append_left _ _ (by simpa[dx]using hj),hf]
   |succ i=>
    simp only[List.zipWith_cons_cons,List.flatten_cons,List.modify_succ_cons];rw[List.set_append_right _ _ (by simp[dx];omega)]
    congr 1
    rw[show(i+1)*9+j-(dx pv p).length=i*9+j by simp[dx];omega];exact ih t (by simpa using hl) i j v f (by simpa using hi) hj hf
theorem Own.setCell {w:World}{size n:Nat}{g cap:Nat}{cs:List Value}(h:Own w size (.slice (some ⟨g,0,none⟩) n cap) n cs)(j:Nat)(hj:j<n*size)(v:Value):Own (w.setCell ⟨g,j,none⟩ v) size (.slice (some ⟨g,0,none⟩) n cap) n (cs.set j v):=by
 refine⟨by rw[List.length_set];exact h.1,?_⟩;rcases h.2 with⟨e,_⟩|⟨g',cap',e,h1,h2,h3,h4,h5⟩
 ·cases e
 ·cases e;have aa5:=(h5 j (aY hj (Nat.mul_le_mul_right _ h1))).1;refine .inr ⟨g,cap,rfl,h1,h2,by simpa[World.setCell]using h3,fun i hi=>?_,fun i hi=>⟨?_,by rw[World.frozen?_setCell];exact(h5 i hi).2⟩⟩
  ·by_cases hij:j=i
   ·subst hij;rw[World.cell?_setCell_same' _ _ _ aa5,List.getElem?_set_self (by rw[h.1];exact hj)]
   ·rw[World.cell?_setCell_other _ _ _ _ (fun e=>hij (by cases e;rfl)),List.getElem?_set_ne hij];exact h4 i hi
  ·by_cases hij:j=i
   ·subst hij;rw[World.cell?_setCell_same' _ _ _ aa5];rfl
   ·rw[World.cell?_setCell_other _ _ _ _ (fun e=>hij (by cases e;rfl))];exact(h5 i hi).1
theorem dK.cellP {col:bU}{w:World}{Y g cap:Nat}{r:Pl.cO}{bJ:List Value}{nv rv tv:Value}(h:dK col w Y r bJ nv (.slice (some ⟨g,0,none⟩) r.pieces.length cap) rv tv)(i j:Nat)(hi:i<r.pieces.length)(hj:j<9)(v:Value)(f:Pl.bQ→Pl.bQ)(hf:∀pv p,(dx pv p).set j v=dx pv (f p))(hfp:∀p,(f p).parts=p.parts):
 dK col (w.setCell ⟨g,i*9+j,none⟩ v) Y {r with pieces:=r.pieces.modify i f} bJ nv (.slice (some ⟨g,0,none⟩) r.pieces.length cap) rv tv:=by
 have hg:col g=.asked:=h.inn.cB g rfl;have k:=bI w g (i*9+j) v;have hcm:Calm col (fun k=>k=g):=Calm.one .asked (fun i hi=>by rw[hi];exact hg) aj aj aj aj aj;have hgY:g≠Y:=fun e=>by rw[e,h.inn.gP]at hg;simp at hg
 have ho:=h.inn.pieces.setCell (i*9+j) af v;rw[I6 bJ r.pieces h.inn.iA i j v f hi hj hf]at ho;refine⟨?_,h.inn.gP,fun q hq=>h.inn.top q (aO k.size hq),?_,by simpa using h.inn.iA,by simpa using ho,fun q hq=>h.inn.cB q hq,fun q x p a b=>?_,?_,?_⟩
 ·have:=h.blk.kept k (fun e=>hgY e.symm);exact this
 ·exact h.inn.names.go k (fun q hq hs=>hcm.ro q hs hq) (fun _ _ e=>e)
 ·have hq:q<r.pieces.length:=by
   have:=(aL.1 b).1;simpa using this
  have hb:∃p0,r.pieces[q]?=some p0∧p.parts=p0.parts:=by
   refine⟨r.pieces[q],ay hq,?_⟩;simp only[List.getElem?_modify,ay hq,Option.map_eq_map,Option.map_some]at b;split at b
   ·cases b;exact hfp _
   ·cases b;rfl
  obtain⟨p0,e0,e1⟩:=hb;rw[e1];exact(h.inn.parts q x p0 a e0).go k (fun q hq hs=>hcm.ro q hs hq) (fun _ _ e=>e)
 ·exact h.inn.rows.go k (fun q hq hs=>hcm.ro q hs hq) (fun _ _ e=>e)
 ·exact h.inn.there.go k hcm.groups hcm.lists hcm.ro (fun _ _=>rfl)
theorem dK.p9 {col:bU}{w:World}{Y:Nat}{r:Pl.cO}{bJ:List Value}{nv pv rv tv:Value}(h:dK col w Y r bJ nv pv rv tv)(j:Nat)(v:Value):Kp (Mine col) w (w.setCell ⟨Y,j,none⟩ v):=
 (bI w Y j v).mono (fun i _ e=>by show col i≠.out;rw[e,h.inn.gP];simp)
theorem dK.Qz {col:bU}{w:World}{Y:Nat}{r:Pl.cO}{bJ:List Value}{nv pv rv tv:Value}(h:dK col w Y r bJ nv pv rv tv){g:Nat}(hg:pv.ownBlock=some g)(j:Nat)(v:Value):Kp (Mine col) w (w.setCell ⟨g,j,none⟩ v):=
 (bI w g j v).mono (fun i _ e=>by show col i≠.out;rw[e,h.inn.cB g hg];simp)
theorem mixed :Tryz.prog.follows .mixedOrders=true:=by kernel_rfl
theorem Bu (col:bU)(w:World)(Y:Nat)(r:Pl.cO)(i:Nat)(bJ:List Value)(nv pv rv tv:Value)(h:dK col w Y r bJ nv pv rv tv)(hi:i<r.pieces.length)(hm:r.made≤1000000000000000)(hpl:r.pieces.length≤1000):
 Calls Tryz.prog 69 #[PtrTo Y 0,.int .i64 i] w fun e w'=>e=.returned (.tuple #[])∧dK col w' Y (Pl.fB r i) bJ nv pv rv tv∧Kp (Mine col) w w'∧w'.heap.size=w.heap.size:=by
 obtain⟨g,cap,rfl,hcap,hg,hc⟩:=h.inn.pieces.at af;have c7:=h.blk.cell 7;have c8:=h.blk.cell 8;have f8:=h.blk.free 8;simp only[dm,I,au]at c7 c8;have h1:=h.p8 8 (.int .i64 ((r.made:Int)+1)) (r':={r with made:=r.made+1}) (by simp[dm,I]) ⟨h.inn.gP,h.inn.top,h.inn.names,h.inn.iA,h.inn.pieces,h.inn.cB,h.inn.parts,h.inn.rows,h.inn.there⟩;have k1:=h.p9 8 (.int .i64 ((r.made:Int)+1));have z1:(w.setCell ⟨Y,8,none⟩ (.int .i64 ((r.made:Int)+1))).heap.size=w.heap.size:=size_set _ _ _;go_enter Tryz.func69,Tryz.ntmps69
 go_wp2_with fail
 clear c7 c8 f8 hc;generalize w.setCell _ _=W1 at*;have c7:=h1.blk.cell 7;have c8:=h1.blk.cell 8;simp only[dm,I,au,Int.natCast_add,Int.natCast_one]at c7 c8;have hwr:∀j,j<9→(W1.cell? ⟨g,i*9+j,none⟩).isSome=true∧W1.frozen? ⟨g,i*9+j,none⟩=false:=fun j hj=>by
  rcases h1.inn.pieces.2 with⟨e,_⟩|⟨g',cap',e,_,_,_,_,h5⟩
  ·cases e
  ·cases e;exact h5 _ af
 obtain⟨d5,e5⟩:=hwr 5 af;obtain⟨v5,d5⟩:=Option.isSome_iff_exists.1 d5;obtain⟨d6,e6⟩:=hwr 6 af;obtain⟨v6,d6⟩:=Option.isSome_iff_exists.1 d6;clear hwr;have i0:(0:Int)≤(i:Int):=af;have i1:(i:Int)<(r.pieces.length:Int):=af
 go_still_tail 9,mixed
 go_wp2_with fail
 go_end0
 have h2:=h1.cellP i 5 hi af (.int .i64 ((r.made:Int)+1)) (fun p=>{p with id:=r.made+1}) (fun _ _=>by simp[dx,I]) (fun _=>rfl);have k2:=h1.Qz (g:=g) rfl (i*9+5) (.int .i64 ((r.made:Int)+1));have z2:=size_set W1 ⟨g,i*9+5,none⟩ (.int .i64 ((r.made:Int)+1));have hl:(r.pieces.modify i fun p=>{p with id:=r.made+1}).length=r.pieces.length:=aj;have h3:=dK.cellP (g:=g) (cap:=cap) (r:={r with made:=r.made+1,pieces:=r.pieces.modify i fun p=>{p with id:=r.made+1} }) (by simp only[hl];exact h2) i 6 (by simp only[hl];exact hi) af (.int .i64 0) (fun p=>{p with due:=0}) (fun _ _=>by simp[dx,I]) (fun _=>rfl);have k3:=h2.Qz (g:=g) rfl (i*9+6) (.int .i64 0);have z3:=size_set (W1.setCell ⟨g,i*9+5,none⟩ (.int .i64 ((r.made:Int)+1))) ⟨g,i*9+6,none⟩ (.int .i64 0);refine⟨rfl,?_,(k1.trans (k2.trans k3)).drew,by show(World.setCell _ _ _).heap.size=_;omega⟩;have e:Pl.fB r i={r with made:=r.made+1,pieces:=(r.pieces.modify i fun p=>{p with id:=r.made+1}).modify i fun p=>{p with due:=0} }:=by
  unfold Pl.fB;rw[List.modify_modify_eq];rfl
 rw[e];simp only[hl]at h3;exact h3.ext (lJ _)
theorem dK.piece {col:bU}{w:World}{Y g cap n:Nat}{r:Pl.cO}{bJ:List Value}{nv rv tv:Value}(h:dK col w Y r bJ nv (.slice (some ⟨g,0,none⟩) n cap) rv tv)(i:Nat)(hi:i<r.pieces.length):
 ∃x,bJ[i]?=some x∧∀j,j<9→w.cell? ⟨g,i*9+j,none⟩=(dx x r.pieces[i])[j]?:=by
 have hpl:=h.inn.iA;refine⟨bJ[i]'af,ay _,fun j hj=>?_⟩;obtain⟨g',cap',e,_,_,hc⟩:=h.inn.pieces.at af;cases e;rw[hc _ af,Lc bJ r.pieces hpl i j hi hj]
theorem Ld (col:bU)(w:World)(Y:Nat)(r:Pl.cO)(bJ:List Value)(nv pv rv tv:Value)(h:dK col w Y r bJ nv pv rv tv)(hm:r.made≤100000000000000)(hpl:r.pieces.length≤1000)(hlen:∀p∈r.pieces,p.length≤1000000∧p.got.length≤1000000):
 Calls Tryz.prog 64 #[PtrTo Y 0] w fun e w'=>e=.returned (.tuple #[])∧dK col w' Y (Pl.iQ r) bJ nv pv rv tv∧Kp (Mine col) w w':=by
 obtain⟨pa,pc,rfl,hpc⟩:=h.inn.pieces.shape;generalize hL:r.pieces.length=L at*;have HL0:=hide hL;go_enter Tryz.func64,Tryz.ntmps64
 go_wp2_with fail
 go_loopw [2,3] (fun t i wr=>∃(k n:Nat)(r':Pl.cO),k≤L∧n≤k∧i=.int .i64 k∧t=.int .i64 n∧dK col wr Y r' bJ nv (.slice pa L pc) rv tv∧Kp (Mine col) w wr∧Hid (Pl.fZ (L-k) k n r'=Pl.iQ r)∧Hid (r'.pieces.length=L)∧r'.made≤r.made+k∧Hid (∀p∈r'.pieces,p.length≤1000000∧p.got.length≤1000000)) (fun _ i _=>L-(intOf i).toNat)
 case atStart=>exact⟨0,0,r,aM _,aK _,rfl,rfl,h,Kp.refl _ _,by show _=_;unfold Pl.iQ;rw[hL];rfl,hL,af,hlen⟩
 case round=>
  obtain⟨k,n,r',hk,hnk,rfl,rfl,hR,hK,HF,HL,hmd,HS⟩:=hrel;have c2:=hR.blk.cell 2;have c6:=hR.blk.cell 6;have c7:=hR.blk.cell 7;simp only[dm,I,au]at c2 c6 c7;clear h hlen;by_cases hkl:k<L
  ·have hfu:L-k=(L-(k+1))+1:=af;rw[hfu]at HF;clear hfu;by_cases hnw:n<r'.win
   ·by_cases hst:r'.state=0
    ·obtain⟨g,cap,he,_,_,_⟩:=hR.inn.pieces.at (by rw[HL.out];omega);simp only[Value.slice.injEq]at he;obtain⟨rfl,hLL,rfl⟩:=he;clear hLL;obtain⟨x,hx,hcell⟩:=hR.piece k (by rw[HL.out];exact hkl);have hgd:r'.pieces.getD k default=r'.pieces[k]'(by rw[HL.out];exact hkl):=by rw[aC,ay];rfl
     have hsz:=HS.out (r'.pieces[k]'(by rw[HL.out];exact hkl)) (aJ _);have b0:((r'.state:Int)==0)=true:=by simp[hst]
     have hp0:∃p,p=r'.pieces[k]'(by rw[HL.out];exact hkl):=⟨_,rfl⟩
     obtain⟨p,hp⟩:=hp0;rw[←hp]at hcell hgd hsz;have HP:=hide hp;have Ti:=hide hgd;clear hp hgd;have d0:=hcell 0 af;have d1:=hcell 1 af;have d2:=hcell 2 af;have d3:=hcell 3 af;have d4:=hcell 4 af;have d5:=hcell 5 af;have d6:=hcell 6 af;have d7:=hcell 7 af;have d8:=hcell 8 af;simp only[dx,I,tx,au,Nat.add_zero]at d0 d1 d2 d3 d4 d5 d6 d7 d8;obtain⟨xo,xn,xc,rfl⟩:∃xo xn xc,x=.slice xo xn xc:=by
      obtain⟨_,ao,cap',e,_⟩:=hR.inn.parts k x p hx (by rw[ay (by rw[HL.out];exact hkl),HP.out]);exact⟨_,_,_,e⟩
     have hsize:({data:=p.got.toArray}:ByteArray).size=p.got.length:=by simp[ByteArray.size]
     clear hcell hx;have hstep:Pl.fZ (L-(k+1)+1) k n r'=(if p.got.length=p.length then Pl.fZ (L-(k+1)) (k+1) n r' else if p.id=0∧p.due=0 then Pl.fZ (L-(k+1)) (k+1) (n+1) (Pl.fB r' k)else Pl.fZ (L-(k+1)) (k+1) (n+1) r'):=by
      simp only[Pl.fZ];rw[if_pos ⟨by rw[HL.out];exact hkl,hnw,hst⟩,Ti.out]
     rw[hstep]at HF;clear hstep Ti;by_cases hgl:p.got.length=p.length
     ·rw[if_pos hgl]at HF;have b1:((p.got.length:Int)==(p.length:Int))=true:=by simp[hgl]
      go_wp2_with fail
      go_roundw
      case rel=>exact⟨k+1,n,r',af,af,by go_num,rfl,hR.ext (ax.alloc _),hK.alloc _,HF,HL,af,HS⟩
      case measure=>simp[intOf];omega
     ·rw[if_neg hgl]at HF;have b1:((p.got.length:Int)==(p.length:Int))=false:=by simp;omega
      by_cases hi0:p.id=0
      ·have b2:((p.id:Int)==0)=true:=by simp[hi0]
       by_cases hd0:p.due=0
       ·rw[if_pos ⟨hi0,hd0⟩]at HF;have b3:((p.due:Int)==0)=true:=by simp[hd0]
        go_wp2_with fail
        refine(Bu col _ Y r' k bJ nv _ rv tv (hR.ext (ax.alloc _)) (by rw[HL.out];exact hkl) af (by rw[HL.out];omega)).mono ?_;rintro e w2 ⟨rfl,h2,k2,z2⟩
        go_wp2_with fail
        go_roundw
        case rel=>exact⟨k+1,n+1,Pl.fB r' k,af,af,by go_num,by go_num,h2,(hK.alloc _).trans k2,HF,by show _=_;rw[Pl.zT];exact HL.out,by show r'.made+1≤_;omega,by
         intro q hq;obtain⟨j,hj,rfl⟩:=List.mem_iff_getElem.1 hq;simp only[Pl.fB,List.getElem_modify];have:=HS.out (r'.pieces[j]'(by simpa[Pl.fB]using hj)) (aJ _);split<;>exact this⟩
        case measure=>simp[intOf];omega
       ·rw[if_neg (fun e=>hd0 e.2)]at HF;have b3:((p.due:Int)==0)=false:=by simp;omega
        go_wp2_with fail
        go_roundw
        case rel=>exact⟨k+1,n+1,r',af,af,by go_num,by go_num,hR.ext (ax.alloc _),hK.alloc _,HF,HL,af,HS⟩
        case measure=>simp[intOf];omega
      ·rw[if_neg (fun e=>hi0 e.1)]at HF;have b2:((p.id:Int)==0)=false:=by simp;omega
       go_wp2_with fail
       go_roundw
       case rel=>exact⟨k+1,n+1,r',af,af,by go_num,by go_num,hR.ext (ax.alloc _),hK.alloc _,HF,HL,af,HS⟩
       case measure=>simp[intOf];omega
    ·have b0:((r'.state:Int)==0)=false:=by simp;omega
     have HE:Hid (Pl.iQ r=r'):=by
      show _=_;rw[←HF.out];simp only[Pl.fZ];rw[if_neg (fun e=>hst e.2.2)]
     clear HF HS
     go_wp2_with fail
     go_end0
     exact⟨rfl,by rw[HE.out];exact hR,hK⟩
   ·have b0:decide ((n:Int)<(r'.win:Int))=false:=by simp;omega
    have HE:Hid (Pl.iQ r=r'):=by
     show _=_;rw[←HF.out];simp only[Pl.fZ];rw[if_neg (fun e=>hnw e.2.1)]
    clear HF HS
    go_wp2_with fail
    go_end0
    exact⟨rfl,by rw[HE.out];exact hR,hK⟩
  ·have b0:decide ((k:Int)<(L:Int))=false:=by simp;omega
   have HE:Hid (Pl.iQ r=r'):=by
    show _=_;rw[←HF.out];rw[show L-k=0 from af];rfl
   clear HF HS
   go_wp2_with fail
   go_end0
   exact⟨rfl,by rw[HE.out];exact hR,hK⟩
theorem Bv (size w t r g:Int):Pl.ni size w t r g=true↔(0≤size∧size≤4000)∧(1≤w∧w≤4)∧(1≤t∧t≤4)∧(1≤r∧r≤20)∧0≤g∧g≤32:=by
 unfold Pl.ni;simp only[Bool.and_eq_true,decide_eq_true_eq,Pl.nC]
theorem Tj (w:World)(v:Value)(size W T R G:Int)(hbad:Pl.ni size W T R G=false):
 Calls Tryz.prog 32 #[.int .i64 size,v,tK W T R G] w fun e w'=>e=.returned (.tuple #[.pointer none,.int .i64 2])∧Ext w w':=by
 by_cases h1:size<0
 ·clear hbad;go_enter Tryz.func32,Tryz.ntmps32
  go_wp2_with fail
  go_ret2
  exact⟨rfl,ax.alloc _⟩
 by_cases h2:4000<size
 ·clear hbad;go_enter Tryz.func32,Tryz.ntmps32
  go_wp2_with fail
  go_ret2
  exact⟨rfl,ax.alloc _⟩
 by_cases h3:W<1
 ·clear hbad;go_enter Tryz.func32,Tryz.ntmps32
  go_wp2_with fail
  go_ret2
  exact⟨rfl,ax.alloc _⟩
 by_cases h4:4<W
 ·clear hbad;go_enter Tryz.func32,Tryz.ntmps32
  go_wp2_with fail
  go_ret2
  exact⟨rfl,ax.alloc _⟩
 by_cases h5:T<1
 ·clear hbad;go_enter Tryz.func32,Tryz.ntmps32
  go_wp2_with fail
  go_ret2
  exact⟨rfl,ax.alloc _⟩
 by_cases h6:4<T
 ·clear hbad;go_enter Tryz.func32,Tryz.ntmps32
  go_wp2_with fail
  go_ret2
  exact⟨rfl,ax.alloc _⟩
 by_cases h7:R<1
 ·clear hbad;go_enter Tryz.func32,Tryz.ntmps32
  go_wp2_with fail
  go_ret2
  exact⟨rfl,ax.alloc _⟩
 by_cases h8:20<R
 ·clear hbad;go_enter Tryz.func32,Tryz.ntmps32
  go_wp2_with fail
  go_ret2
  exact⟨rfl,ax.alloc _⟩
 by_cases h9:G<0
 ·clear hbad;go_enter Tryz.func32,Tryz.ntmps32
  go_wp2_with fail
  go_ret2
  exact⟨rfl,ax.alloc _⟩
 by_cases h10:32<G
 ·clear hbad;go_enter Tryz.func32,Tryz.ntmps32
  go_wp2_with fail
  go_ret2
  exact⟨rfl,ax.alloc _⟩
 have:Pl.ni size W T R G=true:=by rw[Bv];omega
 rw[this]at hbad;cases hbad
theorem aac {B0:Nat}{w:World}{v:Value}{ss:List ByteArray}(h:h_ B0 w v ss):Src Tryz.prog 1 22 v ss.length (ss.map Value.string) w:=by
 obtain⟨ao,cap,rfl,h1,h2,h3⟩:=h;simp only[aQ]at h1 h3⊢;cases ss with
 |nil=>
  cases ao with
  |none=>exact Src.ofNil (P:=Tryz.prog) w (e':=9) Tryz.underlying22 _
  |some a=>exact Src.ofSlice (P:=Tryz.prog) w (e':=9) Tryz.underlying22 _ _ _ _ rfl (fun j u hu=>by simp at hu) aj
 |cons s r=>
  obtain⟨b,off,rfl,hb,hc⟩:=h3 aj;exact Src.ofSlice (P:=Tryz.prog) w (e':=9) Tryz.underlying22 _ _ _ _ aj (fun j u hu=>by
   have hj:=(aL.1 hu).1;rw[Addr.add_lit];simp only[aQ]at hj;rw[hc j hj];exact hu) (fun u hu=>by
   obtain⟨y,_,rfl⟩:=List.mem_map.1 hu;rfl)
def vC (Y:Nat)(nv pv:Value):bU:=fun k=>if k=Y then .scan else if nv.ownBlock=some k then .ro else if pv.ownBlock=some k then .asked else .out
theorem Le {w:World}{Y:Nat}{r:Pl.cO}{bJ:List Value}{nv pv:Value}(hb:bK w Y (dm r nv pv (.slice none 0 0) (.slice none 0 0)) 118)(hn:Own w 1 nv r.want.length (r.want.map tx))(hp:Own w 9 pv r.pieces.length (kU bJ r.pieces))(hl:bJ.length=r.pieces.length)(hpp:∀(i:Nat)(x:Value)(p:Pl.bQ),bJ[i]?=some x→r.pieces[i]?=some p→x=.slice none 0 0∧p.parts=[])
 (h1:nv.ownBlock≠some Y)(h2:pv.ownBlock≠some Y)(h3:∀g,nv.ownBlock=some g→pv.ownBlock≠some g)(hr:r.rows=[])(ht:r.there=[]):dK (vC Y nv pv) w Y r bJ nv pv (.slice none 0 0) (.slice none 0 0):=by
 have hlt:=hb.lt;refine⟨hb,by simp[vC],fun k hk=>?_,(hn.rowAt _ (fun g hg=>?_)).weak,hl,hp,fun g hg=>?_,fun i x p a b=>?_,by rw[hr];exact bM.nil _ _ _ _,by rw[ht];exact ru.nil _ _⟩
 ·unfold vC;rw[if_neg af,if_neg (fun e=>by have:=hn.lt e;omega),if_neg (fun e=>by have:=hp.lt e;omega)]
 ·show vC Y nv pv g=.ro;unfold vC;rw[if_neg (fun e=>h1 (by rw[←e];exact hg)),if_pos hg]
 ·unfold vC;rw[if_neg (fun e=>h2 (by rw[←e];exact hg)),if_neg (fun e=>h3 g e hg),if_pos hg]
 ·obtain⟨rfl,e⟩:=hpp i x p a b;unfold jG;rw[e];exact bM.nil _ _ _ _
theorem WR (B0:Nat)(w:World)(v:Value)(ss:List ByteArray)(size W T R G:Int)(hr:h_ B0 w v ss)(hss:ss.length≤8796093021952)(hok:Pl.ni size W T R G=true):
 Calls Tryz.prog 32 #[.int .i64 size,v,tK W T R G] w fun e w'=>∃Y col,e=.returned (.tuple #[PtrTo Y 0,.int .i64 0])∧l6 col w' Y (Pl.qJ size.toNat (ss.map bytesOf) W.toNat T.toNat R.toNat G.toNat)∧Ext w w'∧∀k,k<w.heap.size→col k=.out:=by
 obtain⟨⟨z1,z2⟩,⟨w1,w2⟩,⟨t1,t2⟩,⟨r1,r2⟩,g1,g2⟩:=(Bv _ _ _ _ _).1 hok;clear hok;have hs:=fun u(hu:Ext w u)=>aac (hr.kept hu (fun _ f=>f.elim))
 have HS:=hide hs;obtain⟨ao,cap,rfl,n1,n2,-⟩:=h_.open hr;clear hr hs;have hB2:bK ((w.alloc (.cells #[.int .i64 W,.int .i64 T,.int .i64 R,.int .i64 G] 24)).alloc (.cells #[.int .i64 size,.slice none 0 0,.int .i64 W,.int .i64 T,.int .i64 R,.int .i64 G,.int .i64 0,.slice none 0 0,.int .i64 0,.int .i64 0,.int .i64 0,.slice none 0 0,.slice none 0 0,.int .i64 0] 118)) (w.heap.size+1) [.int .i64 size,.slice none 0 0,.int .i64 W,.int .i64 T,.int .i64 R,.int .i64 G,.int .i64 0,.slice none 0 0,.int .i64 0,.int .i64 0,.int .i64 0,.slice none 0 0,.slice none 0 0,.int .i64 0] 118:=by
  have:=bK.bO (w.alloc (.cells #[.int .i64 W,.int .i64 T,.int .i64 R,.int .i64 G] 24)) [.int .i64 size,.slice none 0 0,.int .i64 W,.int .i64 T,.int .i64 R,.int .i64 G,.int .i64 0,.slice none 0 0,.int .i64 0,.int .i64 0,.int .i64 0,.slice none 0 0,.slice none 0 0,.int .i64 0] 118;rwa[show(w.alloc (.cells #[.int .i64 W,.int .i64 T,.int .i64 R,.int .i64 G] 24)).heap.size=w.heap.size+1 from aj]at this
 have HB2:=hide hB2;clear hB2;go_enter Tryz.func32,Tryz.ntmps32
 go_wp2_with (at_builtin;go_must (refine dI _ rfl _ _ 22 22 rfl 9 (.string ByteArray.empty) 1 16 Tryz.underlying22 CW rfl (.slice none 0 0) 0 [] rfl (Own.nil _ 1) _ rfl ss.length _ ((bH HS) _ ((ax.alloc _).alloc _)) af af ?_);intro nv u1 o1 k1 s1;have hb1:=(bH HB2).kept k1 (fun e=>by simp[Of,Value.ownBlock]at e);have c1:=hb1.cell 1;have f1:=hb1.free 1;have c6:=hb1.cell 6;have f6:=hb1.free 6;have c7:=hb1.cell 7;have f7:=hb1.free 7;have hlt1:=hb1.lt;have hne1:¬(u1.heap.size=w.heap.size+1):=af;simp only[au]at c1 c6 c7;obtain⟨na,nc,rfl,hnc⟩:=o1.shape;by_cases aif:size<10)
 all_goals
  have qB:Ext w ((w.alloc (.cells #[.int .i64 W,.int .i64 T,.int .i64 R,.int .i64 G] 24)).alloc (.cells #[.int .i64 size,.slice none 0 0,.int .i64 W,.int .i64 T,.int .i64 R,.int .i64 G,.int .i64 0,.slice none 0 0,.int .i64 0,.int .i64 0,.int .i64 0,.slice none 0 0,.slice none 0 0,.int .i64 0] 118)):=(ax.alloc _).alloc _;have x1:Ext w u1:=qB.then k1 (fun i hi e=>by simp[Of,Value.ownBlock]at e);have Pv:∀g,(Value.slice na ss.length nc).ownBlock=some g→w.heap.size+1<g:=fun g hg=>by
   rcases s1 with e|⟨g',e1,e2⟩
   ·simp only[Nat.zero_add]at e;rw[e]at hg;simp[Value.ownBlock]at hg
   ·simp only[Nat.zero_add]at e1;rw[e1]at hg;simp only[Option.some.injEq]at hg;simp at e2;omega
  have o2:Own u1 1 (.slice na ss.length nc) (ss.map bytesOf).length ((ss.map bytesOf).map tx):=by
   have e:(ss.map bytesOf).map tx=ss.map Value.string:=by
    rw[List.map_map];exact List.map_congr_left (fun y _=>K7 y)
   rw[e,aQ];simpa using o1
  clear s1 o1 k1 c1 f1 c6 f6 c7 f7 hne1 HS HB2 qB
 ·go_ret2
  have em:Pl.qJ size.toNat (ss.map bytesOf) W.toNat T.toNat R.toNat G.toNat={size:=size.toNat,want:=ss.map bytesOf,win:=W.toNat,tries:=T.toNat,dh:=R.toNat,gap:=G.toNat,state:=2}:=by unfold Pl.qJ;rw[if_pos af]
  rw[em];have hb3:=(hb1.set 1 (.slice na ss.length nc)).set 6 (.int .i64 2);have k3:Kp (fun k=>k=w.heap.size+1) u1 ((u1.setCell ⟨w.heap.size+1,1,none⟩ (.slice na ss.length nc)).setCell ⟨w.heap.size+1,6,none⟩ (.int .i64 2)):=(bI _ _ _ _).trans (bI _ _ _ _);have o3:=o2.kept k3 (fun g hg e=>by have:=Pv g hg;omega);have hR:=Le (r:={size:=size.toNat,want:=ss.map bytesOf,win:=W.toNat,tries:=T.toNat,dh:=R.toNat,gap:=G.toNat,state:=2}) (bJ:=[]) (pv:=.slice none 0 0) (by
   have ec:dm {size:=size.toNat,want:=ss.map bytesOf,win:=W.toNat,tries:=T.toNat,dh:=R.toNat,gap:=G.toNat,state:=2} (.slice na ss.length nc) (.slice none 0 0) (.slice none 0 0) (.slice none 0 0)=[.int .i64 size,.slice na ss.length nc,.int .i64 W,.int .i64 T,.int .i64 R,.int .i64 G,.int .i64 2,.slice none 0 0,.int .i64 0,.int .i64 0,.int .i64 0,.slice none 0 0,.slice none 0 0,.int .i64 0]:=by
    simp only[dm,I,Int.toNat_of_nonneg z1,Int.toNat_of_nonneg (by omega:0≤W),Int.toNat_of_nonneg (by omega:0≤T),Int.toNat_of_nonneg (by omega:0≤R),Int.toNat_of_nonneg g1];rfl
   rw[ec];exact hb3) o3 (Own.nil _ _) rfl (fun i x p a=>by simp at a) (fun e=>by have:=Pv _ e;omega) (by simp[Value.ownBlock]) (fun g _=>by simp[Value.ownBlock]) rfl rfl
  refine⟨w.heap.size+1,_,rfl,⟨_,_,_,_,_,hR,fun _=>rfl⟩,x1.then k3 (fun i hi e=>af),fun k hk=>?_⟩;unfold vC;rw[if_neg af,if_neg (fun e=>by have:=Pv k e;omega),if_neg (by simp[Value.ownBlock])]
 ·have em:Pl.qJ size.toNat (ss.map bytesOf) W.toNat T.toNat R.toNat G.toNat=Pl.iQ {size:=size.toNat,want:=ss.map bytesOf,win:=W.toNat,tries:=T.toNat,dh:=R.toNat,gap:=G.toNat,pieces:=[{kind:=0,place:=size.toNat-6,length:=6}]}:=by unfold Pl.qJ;rw[if_neg af]
  have EM:=hide em;clear em;have hb3:=(hb1.set 1 (.slice na ss.length nc)).set 7 (.slice (some ⟨u1.heap.size,0,none⟩) 1 1);have k3:Kp (fun k=>k=w.heap.size+1) u1 ((u1.setCell ⟨w.heap.size+1,1,none⟩ (.slice na ss.length nc)).setCell ⟨w.heap.size+1,7,none⟩ (.slice (some ⟨u1.heap.size,0,none⟩) 1 1)):=(bI _ _ _ _).trans (bI _ _ _ _);have z3:((u1.setCell ⟨w.heap.size+1,1,none⟩ (.slice na ss.length nc)).setCell ⟨w.heap.size+1,7,none⟩ (.slice (some ⟨u1.heap.size,0,none⟩) 1 1)).heap.size=u1.heap.size:=by rw[size_set,size_set]
  have o3:=o2.kept k3 (fun g hg e=>by have:=Pv g hg;omega);have hnu:∀g,(Value.slice na ss.length nc).ownBlock=some g→g<u1.heap.size:=fun g hg=>o2.lt hg
  generalize(u1.setCell ⟨w.heap.size+1,1,none⟩ (.slice na ss.length nc)).setCell ⟨w.heap.size+1,7,none⟩ (.slice (some ⟨u1.heap.size,0,none⟩) 1 1)=U3 at*;have x34:Ext U3 (U3.alloc (.cells #[.int .i64 0,.int .i64 (size-6),.int .i64 6,.string {data:=#[]},.int .i64 0,.int .i64 0,.int .i64 0,.int .i64 0,.slice none 0 0] 121)):=ax.alloc _;have hb4:=hb3.kept x34 id;have o4:=o3.ext x34;have hbp:=bK.bO U3 [.int .i64 0,.int .i64 (size-6),.int .i64 6,.string {data:=#[]},.int .i64 0,.int .i64 0,.int .i64 0,.int .i64 0,.slice none 0 0] 121;have zu:(U3.alloc (.cells #[.int .i64 0,.int .i64 (size-6),.int .i64 6,.string {data:=#[]},.int .i64 0,.int .i64 0,.int .i64 0,.int .i64 0,.slice none 0 0] 121)).heap.size=u1.heap.size+1:=by simp[z3]
  have hU:=U3.alloc (.cells #[.int .i64 0,.int .i64 (size-6),.int .i64 6,.string {data:=#[]},.int .i64 0,.int .i64 0,.int .i64 0,.int .i64 0,.slice none 0 0] 121);have x4:Ext w (U3.alloc (.cells #[.int .i64 0,.int .i64 (size-6),.int .i64 6,.string {data:=#[]},.int .i64 0,.int .i64 0,.int .i64 0,.int .i64 0,.slice none 0 0] 121)):=(x1.then k3 (fun i hi e=>af)).trans x34;rw[z3]at hbp;clear hU;generalize U3.alloc _=U4 at*;have hR:=Le (w:=U4) (Y:=w.heap.size+1) (nv:=.slice na ss.length nc) (r:={size:=size.toNat,want:=ss.map bytesOf,win:=W.toNat,tries:=T.toNat,dh:=R.toNat,gap:=G.toNat,pieces:=[{kind:=0,place:=size.toNat-6,length:=6}]}) (bJ:=[.slice none 0 0]) (pv:=.slice (some ⟨u1.heap.size,0,none⟩) 1 1) (by
   have ec:dm {size:=size.toNat,want:=ss.map bytesOf,win:=W.toNat,tries:=T.toNat,dh:=R.toNat,gap:=G.toNat,pieces:=[{kind:=0,place:=size.toNat-6,length:=6}]} (.slice na ss.length nc) (.slice (some ⟨u1.heap.size,0,none⟩) 1 1) (.slice none 0 0) (.slice none 0 0)=[.int .i64 size,.slice na ss.length nc,.int .i64 W,.int .i64 T,.int .i64 R,.int .i64 G,.int .i64 0,.slice (some ⟨u1.heap.size,0,none⟩) 1 1,.int .i64 0,.int .i64 0,.int .i64 0,.slice none 0 0,.slice none 0 0,.int .i64 0]:=by
    simp only[dm,I,Int.toNat_of_nonneg z1,Int.toNat_of_nonneg (by omega:0≤W),Int.toNat_of_nonneg (by omega:0≤T),Int.toNat_of_nonneg (by omega:0≤R),Int.toNat_of_nonneg g1];rfl
   rw[ec];exact hb4) o4 (by
   refine⟨rfl,.inr ⟨u1.heap.size,1,rfl,aK _,by unfold maxLen;omega,af,fun j hj=>?_,fun j hj=>⟨?_,hbp.free j⟩⟩⟩
   ·rw[hbp.cell j];have ep:kU [.slice none 0 0] [({kind:=0,place:=size.toNat-6,length:=6}:Pl.bQ)]=[.int .i64 0,.int .i64 (size-6),.int .i64 6,.string {data:=#[]},.int .i64 0,.int .i64 0,.int .i64 0,.int .i64 0,.slice none 0 0]:=by
     simp only[kU,dx,I,tx,List.zipWith_cons_cons,List.zipWith_nil_left,List.flatten_cons,List.flatten_nil,List.append_nil,show((size.toNat-6:Nat):Int)=size-6 from af];rfl
    rw[ep]
   ·rw[hbp.cell j,ay (by simpa using hj)];rfl) rfl (fun i x p a b=>by
   cases i with
   |zero=>simp at a b;exact⟨a.symm,by rw[←b]⟩
   |succ i=>simp at a) (fun e=>by have:=Pv _ e;omega) (by simp[Value.ownBlock];omega) (fun g hg=>by have:=hnu g hg;simp[Value.ownBlock];omega) rfl rfl
  refine(Ld _ U4 (w.heap.size+1) _ _ _ _ _ _ hR aj aj aj).mono ?_;rintro e u5 ⟨rfl,h5,k5⟩
  go_wp2_with fail
  go_ret2
  have hout:∀k,k<w.heap.size→vC (w.heap.size+1) (.slice na ss.length nc) (.slice (some ⟨u1.heap.size,0,none⟩) 1 1) k=.out:=fun k hk=>by
   unfold vC;rw[if_neg af,if_neg (fun e=>by have:=Pv k e;omega),if_neg (by simp[Value.ownBlock];omega)]
  refine⟨w.heap.size+1,_,rfl,by rw[EM.out];exact⟨_,_,_,_,_,h5,fun _=>rfl⟩,x4.then k5 (fun i hi e=>e (hout i hi)),hout⟩
def jI (t:Nat×Nat×Nat):List Value:=[I t.1,I t.2.1,I t.2.2]
theorem aa7 (t:Nat×Nat×Nat):∀u∈jI t,u.oneCell'=true:=by
 intro u hu;simp[jI]at hu;rcases hu with rfl|rfl|rfl<;>rfl
theorem Fx (col:bU)(w:World)(Y:Nat)(r:Pl.cO)(h:I5 col w Y r)(hm:r.made≤100000000000000)(hpl:r.pieces.length≤1000)(hlen:∀p∈r.pieces,p.length≤1000000∧p.got.length≤p.length∧p.place≤1000000):
 Calls Tryz.prog 34 #[PtrTo Y 0] w fun e w'=>∃v,e=.returned v∧Own w' 3 v (Pl.jg r).length ((Pl.jg r).flatMap jI)∧Ext w w'∧∀g,v.ownBlock=some g→w.heap.size≤g:=by
 obtain⟨bJ,nv,pv,rv,tv,h⟩:=h;obtain⟨pa,pc,rfl,hpc⟩:=h.inn.pieces.shape;have HN:Hid (∀g,(Value.slice none 0 0).ownBlock=some g→w.heap.size≤g):=fun g hg=>by simp[Value.ownBlock]at hg
 by_cases hst:r.state=0
 ·have er:Pl.jg r=Pl.fK r.pieces r.made:=by unfold Pl.jg;rw[if_pos hst]
  rw[er];clear er;have b0:((r.state:Int)==0)=true:=by simp[hst]
  go_enter Tryz.func34,Tryz.ntmps34
  go_wp2_with fail
  go_loopw [3,4] (fun t i wr=>∃k:Nat,k≤r.made∧i=.int .i64 ((k:Int)+1)∧Own wr 3 t (Pl.fK r.pieces k).length ((Pl.fK r.pieces k).flatMap jI)∧Ext w wr∧∀g,t.ownBlock=some g→w.heap.size≤g) (fun _ i _=>r.made+1-(intOf i).toNat)
  case atStart=>exact⟨0,aM _,rfl,Own.nil _ _,Kp.refl _ _,bH HN⟩
  case round=>
   obtain⟨k,hk,rfl,ho,hx,hg⟩:=hrel;have hR:=h.ext hx;have c6:=hR.blk.cell 6;have c7:=hR.blk.cell 7;have c8:=hR.blk.cell 8;simp only[dm,I,au]at c6 c7 c8;by_cases hkm:k<r.made
   ·have ae5:=Pl.Dl r.pieces k 0
    go_wp2_with fail
    go_loopw [3,5] (fun t i wr=>∃q:Nat,q≤r.pieces.length∧i=.int .i64 q∧Own wr 3 t (Pl.fK r.pieces k++Pl.iT (k+1) (r.pieces.take q)).length ((Pl.fK r.pieces k++Pl.iT (k+1) (r.pieces.take q)).flatMap jI)∧Ext w wr∧∀g,t.ownBlock=some g→w.heap.size≤g) (fun _ i _=>r.pieces.length-(intOf i).toNat)
    case atStart=>exact⟨0,aM _,rfl,by simpa[Pl.iT]using ho,hx,hg⟩
    case round=>
     obtain⟨q,hq,rfl,ho2,hx2,hg2⟩:=hrel;have hR2:=h.ext hx2;clear c6 c7 c8 ho hx hg;have c7:=hR2.blk.cell 7;simp only[dm,I,au]at c7;by_cases kK:q<r.pieces.length
     ·obtain⟨g,cap,he,-,-,-⟩:=hR2.inn.pieces.at af;cases he;obtain⟨x,hx0,hcell⟩:=hR2.piece q kK;obtain⟨xo,xn,xc,rfl⟩:∃xo xn xc,x=.slice xo xn xc:=by
       obtain⟨_,ao,cap',e,_⟩:=hR2.inn.parts q x r.pieces[q] hx0 (ay kK);exact⟨_,_,_,e⟩
      have hsz:=hlen r.pieces[q] (aJ kK);have hmid:=Pl.Dl r.pieces k q;have HS:Hid (Pl.fK r.pieces k++Pl.iT (k+1) (r.pieces.take (q+1))=(Pl.fK r.pieces k++Pl.iT (k+1) (r.pieces.take q))++(if r.pieces[q].id=k+1 then[(k+1,r.pieces[q].place+r.pieces[q].got.length,r.pieces[q].length-r.pieces[q].got.length)]else[])):=by
       show _=_;rw[aF kK,Pl.K9,aW]
      have d0:=hcell 0 af;have d1:=hcell 1 af;have d2:=hcell 2 af;have d3:=hcell 3 af;have d4:=hcell 4 af;have d5:=hcell 5 af;have d6:=hcell 6 af;have d7:=hcell 7 af;have d8:=hcell 8 af;generalize r.pieces[q]=p at*;simp only[dx,I,tx,au,Nat.add_zero]at d0 d1 d2 d3 d4 d5 d6 d7 d8;have hsize:({data:=p.got.toArray}:ByteArray).size=p.got.length:=by simp[ByteArray.size]
      clear hcell hx0 hR hR2 ae5 h hlen;by_cases hid:p.id=k+1
      ·rw[if_pos hid]at HS;have b1:((p.id:Int)==(k:Int)+1)=true:=by simp;omega
       have htr:Hid (#[Value.int .i64 ((k:Int)+1),Value.int .i64 ((p.place:Int)+(p.got.length:Int)),Value.int .i64 ((p.length:Int)-(p.got.length:Int))]=(jI (k+1,p.place+p.got.length,p.length-p.got.length)).toArray):=by
        show _=_;simp only[jI,I,Int.natCast_add,Int.natCast_one,Int.natCast_sub hsz.2.1]
       have hz:=hx2.size;have ho3:=ho2;obtain⟨ta,tc,rfl,_⟩:=ho2.shape;generalize(Pl.fK r.pieces k++Pl.iT (k+1) (r.pieces.take q))=A at*
       go_wp2_with (at_builtin;go_must (refine dI _ rfl _ _ 67 67 rfl 72 (.agg #[.int .i64 0,.int .i64 0,.int .i64 0]) 3 24 Tryz.underlying67 vQ rfl _ _ _ rfl ((ho3.dV _).dV _) _ rfl 1 _ (I4 _ _ aj _ _ Tryz.underlying67 _ _ (bH htr) (aa7 _)) af af ?_);intro v3 w3 o3 k3 s3)
       have x3:Ext w w3:=((hx2.alloc _).alloc _).then k3 (fun i hi e=>by have:=hg2 i e;omega)
       go_roundw
       case rel=>exact⟨q+1,af,by go_num,by
        rw[HS.out];simpa using o3,x3,fun g e=>by
         rcases eT s3 e with e'|e'
         ·exact hg2 g e'
         ·simp at e';omega⟩
       case measure=>simp[intOf];omega
      ·rw[if_neg hid,List.append_nil]at HS;have b1:((p.id:Int)==(k:Int)+1)=false:=by simp;omega
       go_wp2_with fail
       go_roundw
       case rel=>exact⟨q+1,af,by go_num,by rw[HS.out];exact ho2.dV _,hx2.alloc _,hg2⟩
       case measure=>simp[intOf];omega
     ·obtain rfl:q=r.pieces.length:=af;rw[aX]at ho2;have HO:Hid (Pl.fK r.pieces (k+1)=Pl.fK r.pieces k++Pl.iT (k+1) r.pieces):=rfl;clear hR hR2
      go_wp2_with fail
      go_roundw
      case rel=>exact⟨k+1,af,by go_num,by rw[HO.out];exact ho2,hx2,hg2⟩
      case measure=>simp[intOf];omega
   ·obtain rfl:k=r.made:=af;clear hR
    go_wp2_with fail
    go_ret;exact⟨_,rfl,ho,hx,hg⟩
 ·have er:Pl.jg r=[]:=by unfold Pl.jg;rw[if_neg hst]
  rw[er];clear er;have b0:((r.state:Int)==0)=false:=by simp;omega
  have c6:=h.blk.cell 6;have c8:=h.blk.cell 8;simp only[dm,I,au]at c6 c8;by_cases hm0:1≤r.made
  ·go_enter Tryz.func34,Tryz.ntmps34
   go_wp2_with fail
   refine wp_loop_rounds 1 ?_;rw[rounds_succ]
   go_wp2_with fail
   go_ret;exact⟨_,rfl,Own.nil _ _,Kp.refl _ _,bH HN⟩
  ·go_enter Tryz.func34,Tryz.ntmps34
   go_wp2_with fail
   refine wp_loop_rounds 1 ?_;rw[rounds_succ]
   go_wp2_with fail
   go_ret;exact⟨_,rfl,Own.nil _ _,Kp.refl _ _,bH HN⟩
theorem QA (col:bU)(w:World)(Y:Nat)(r:Pl.cO)(h:I5 col w Y r):
 Calls Tryz.prog 41 #[PtrTo Y 0] w fun e w'=>e=.returned (.int .i64 r.state)∧w'=w:=by
 obtain⟨bJ,nv,pv,rv,tv,h⟩:=h;have c6:=h.blk.cell 6;simp only[dm,I,au]at c6;clear h;go_enter Tryz.func41,Tryz.ntmps41;go_wp2;go_ret;exact⟨rfl,rfl⟩
end Go.Proofs.YthicgffppmbamaaGreat
