import Derived.BigQuiet
import Derived.Test.YthicgffppmbamaaGreatP7
import Derived.Test.YthicgffppmbamaaGreatP8
import Derived.Test.YthicgffppmbamaaGreatP11
import Derived.Test.YthicgffppmbamaaGreatP12
import Derived.Test.YthicgffppmbamaaGreatP19
set_option maxRecDepth 100000
set_option maxHeartbeats 16000000
namespace Go.Proofs.YthicgffppmbamaaGreat
open Go.RowKit
structure Ml (m:Pl.Sc):Prop where
 size:m.size≤4000
 bW:m.bW≤100000000000
 asked:m.asked.length≤900
 want:m.want.length≤4
 gap:m.gap≤1000
 win:m.win≤1000
 opened:m.opened≤900
 ahead:m.ahead.length≤50
 pieces:∀p∈m.ahead,p.place+p.length≤1000000
def rD (m:Pl.Sc)(gW:Pl.xK)(l:List UInt8):Prop:=match gW with
 |.tail=>True
 |.footer=>l.length+10≤m.size
 |.piece p=>(∀y∈p.pages,Xx p l.length y)∧p.pages.length≤1000∧BP p l p.pages m.rows∧m.rows.groups.length≤1000000∧1≤m.opened
theorem fA.Mq {col bV:bU}{S:Nat→Prop}{w w':World}{P p:Nat}{m:Pl.Sc}{ps qs:List Nat}{nv av wv hv gv:Value}(h:fA col w P m ps qs nv av wv hv gv)(k:Kp S w w')(hS:∀i,S i→col i=.data p∨i=p)(hpc:col p=.part)(hn:p∉ps++qs)(hc:∀i,i<w.heap.size→bV i=col i)(ht:∀i,w'.heap.size≤i→bV i=.out):fA bV w' P m ps qs nv av wv hv gv:=by
 have hno:∀(c:Col),c≠.part→c≠.data p→∀i,S i→col i≠c:=fun c h1 h2 i hi e=>by
  rcases hS i hi with e'|e'
  ·exact h2 (by rw[←e,e'])
  ·rw[e',hpc]at e;exact h1 e.symm
 have hin:∀q∈ps++qs,q≠p:=fun q hq e=>hn (e▸hq)
 have hnot:∀q∈ps++qs,col q=.part→¬S q:=fun q hq hqc hs=>by
  rcases hS q hs with e'|e'
  ·rw[hqc]at e';cases e'
  ·exact hin q hq e'
 have hdat:∀q∈ps++qs,∀i,S i→col i≠.data q:=fun q hq i hi e=>by
  rcases hS i hi with e'|e'
  ·rw[e']at e;cases e;exact hin p hq rfl
  ·rw[e',hpc]at e;cases e
 have hP:¬S P:=fun hs=>hno .scan aj aj P hs h.inn.cB
 have ha:∀q∈ps,¬S q:=fun q hq=>hnot q (aI.2 (.inl hq)) (h.inn.eY.lt hq).2
 have hw:∀q∈qs,¬S q:=fun q hq=>hnot q (aI.2 (.inr hq)) (h.inn.gI.lt hq).2
 refine⟨h.blk.kept k hP,by rw[hc P h.blk.lt];exact h.inn.cB,ht,?_,?_,fun g hg=>by rw[hc g (h.inn.asked.lt hg)];exact h.inn.jd g hg,?_,?_,fun g hg=>by rw[hc g (h.inn.waiting.lt hg)];exact h.inn.jW g hg,?_,h.inn.nodup,?_,?_⟩
 ·exact h.inn.names.go k (fun i hi hs=>hno .ro aj aj i hs hi) (fun i hlt e=>by rw[hc i hlt];exact e)
 ·exact h.inn.asked.kept k (fun g hg hs=>hno .asked aj aj g hs (h.inn.jd g hg))
 ·exact h.inn.eY.go k ha (fun q hq=>hdat q (aI.2 (.inl hq))) (hno _ aj aj) hc
 ·exact h.inn.waiting.kept k (fun g hg hs=>hno .wait aj aj g hs (h.inn.jW g hg))
 ·exact h.inn.gI.go k hw (fun q hq=>hdat q (aI.2 (.inr hq))) (hno _ aj aj) hc
 ·exact h.inn.ahead.go k (hno _ aj aj) hc
 ·exact h.inn.groups.go k (hno _ aj aj) (fun g=>hno _ aj aj) (hno _ aj aj) hc
theorem dZ.row {w:World}{v:Value}{bs:List UInt8}(h:dZ w v bs)(C:Nat→Prop)(hC:∀g,v.ownBlock=some g→C g):bM C false w 1 v bs.length (bs.map B):=by
 rcases h with⟨rfl,rfl⟩|⟨g,cap,rfl,h1,h2,h3,h4,h5⟩
 ·exact bM.nil _ _ _ _
 ·refine⟨aj,_,cap,rfl,h1,fun _=>⟨g,0,rfl,hC g rfl,h3,fun j hj=>?_,fun h=>by cases h⟩⟩;rw[Nat.zero_add];have:=h4 j af;simpa using this
theorem Um (C:Nat→Prop)(col:bU)(w:World)(P:Nat)(m:Pl.Sc)(ps qs:List Nat)(nv av wv hv gv:Value)(h:fA col w P m ps qs nv av wv hv gv)(gW:Pl.xK)(xv v:Value)(l:List UInt8)(hx:xM col w P xv gW)(hC:∀i,C i→i<w.heap.size∧¬nG col i)(hr:bM C false w 1 v l.length (l.map B))(hl:l.length≤1000000)(hb:Ml m)(hok:rD m gW l):
 ∃f r,xv=fq f r∧(∀u,Sem.run Tryz.prog (callFunc f #[r,v]) u=.ok (.enter f #[r,v]) u)∧Calls Tryz.prog f #[r,v] w fun e w'=>e=.returned (.tuple #[])∧∃bV,iW bV w' P (Pl.mO m gW l)∧cu col w w' bV:=by
 cases gW with
 |tail=>
  refine⟨_,_,hx,fun u=>by go_simp,?_⟩;exact L8 C col w P m ps qs nv av wv hv gv h v l hr hl hb.size (by have:=hb.bW;omega) (by have:=hb.asked;omega)
 |footer=>
  refine⟨_,_,hx,fun u=>by go_simp,?_⟩;exact Ij C col w P m ps qs nv av wv hv gv h v l (fun i hi=>(hC i hi).1) hr hok hb.size hb.want hb.gap hb.win hb.opened hb.bW hb.asked
 |piece p=>
  obtain⟨pv,e,hp⟩:=hx;obtain⟨o1,o2,o3,o4,o5⟩:=hok;refine⟨_,_,e,fun u=>by go_simp,?_⟩;have hf:EJ {m with opened:=m.opened-1}:=by
   have:=hb.bW;have:=hb.asked;have:=hb.opened;have:=hb.ahead;exact⟨hb.size,by show m.bW+m.ahead.length≤_;omega,by show m.asked.length+m.ahead.length≤_;omega,hb.win,by show m.opened-1+m.ahead.length≤_;omega,hb.pieces⟩
  exact OM C col w P m ps qs nv av wv hv gv h p pv v l hp hC hr hl o1 o2 o3 o4 o5 hf
theorem Mr (col:bU)(w:World)(P p:Nat)(m:Pl.Sc)(x:Pl.Part)(ps qs:List Nat)(nv av wv hv gv dv xv:Value)(h:fA col w P m ps qs nv av wv hv gv)(hp:jU col w P p x dv xv)(hn:p∉ps++qs)(l:List UInt8)(hb:Ml m)(hpl:x.place+x.length≤1000000)(hdl:x.data.length+l.length≤x.length)(hw:¬(x.data.length+l.length<x.length)→rD m x.gW (x.data++l)):
 Calls Tryz.prog 118 #[PtrTo p 0,tx l] w fun e w'=>e=.returned (.tuple #[])∧∃bV,iW bV w' P (Pl.nR m x l)∧cu col w w' bV:=by
 have c3:=hp.blk.cell 3;have f3:=hp.blk.free 3;simp only[kZ,au]at c3;have hdat:=hp.data;obtain⟨da,dc,rfl⟩:=hp.data.shape;have hsz:(⟨l.toArray⟩:ByteArray).size=l.length:=by simp[ByteArray.size]
 have hsrc:=zR w ⟨l.toArray⟩;rw[hsz,show bytesOf ⟨l.toArray⟩=l by simp[bytesOf]]at hsrc;have F7:∀g,(Value.slice da x.data.length dc).ownBlock=some g→g≠p:=fun g e e'=>by have:=hp.zM g e;rw[e',hp.cB]at this;cases this
 have Xy:=hp.blk.lt;clear hsz;go_enter Tryz.func118,Tryz.ntmps118;have HF:Hid (∀u,Kp (Of (.slice da x.data.length dc)) w u→u.cell? ⟨p,3,none⟩=some (.slice da x.data.length dc)∧u.frozen? ⟨p,3,none⟩=false):=hide fun u hu=>⟨hu.cell c3 (fun e=>F7 _ e rfl),by rw[World.frozen?_of_block (w:=w) (a:=⟨p,3,none⟩) (hu.block p Xy (fun e=>F7 _ e rfl))];exact f3⟩
 go_upto_region 1 with(at_builtin;go_must (refine jq _ rfl _ _ 9 rfl _ x.data rfl hdat _ rfl _ l hsrc af ?_);intro v1 w1 o1 k1 s1;obtain⟨q1,q2⟩:=(bH HF) w1 k1;obtain⟨a1,oZ,rfl⟩:=o1.shape)
 rw[aD]at o1 s1;obtain⟨dv',hdv⟩:∃dv',dv'=Value.slice a1 (x.data.length+l.length) oZ:=⟨_,rfl⟩
 have hz1:=k1.size;have ks:=bI w1 p 3 (.slice a1 (x.data.length+l.length) oZ);have hzs:(w1.setCell ⟨p,3,none⟩ (.slice a1 (x.data.length+l.length) oZ)).heap.size=w1.heap.size:=size_set _ _ _;have hlt:∀i,i<w.heap.size→fo col w.heap.size w1.heap.size (.data p) i=col i:=fun i hi=>kH _ _ _ _ _ hi
 have htop:∀i,(w1.setCell ⟨p,3,none⟩ (.slice a1 (x.data.length+l.length) oZ)).heap.size≤i→fo col w.heap.size w1.heap.size (.data p) i=.out:=fun i hi=>by
  rw[hzs]at hi;rw[nS _ _ _ _ _ hi];exact h.inn.top i af
 have kS:Kp (fun i=>col i=.data p∨i=p) w (w1.setCell ⟨p,3,none⟩ (.slice a1 (x.data.length+l.length) oZ)):=(k1.mono (fun i _ e=>.inl (hp.zM i e))).trans (ks.mono (fun _ _ e=>.inr e));have r2:=h.Mq (bV:=fo col w.heap.size w1.heap.size (.data p)) kS (fun i hi=>hi) hp.cB hn hlt htop;have hnb:∀g,(Value.slice a1 (x.data.length+l.length) oZ).ownBlock=some g→g≠p∧fo col w.heap.size w1.heap.size (.data p) g=.data p:=fun g e=>by
  rcases s1 with e'|⟨g',e1,e2⟩
  ·rw[e']at e;exact⟨F7 g e,by rw[hlt g (hdat.lt e)];exact hp.zM g e⟩
  ·rw[e1]at e;simp only[Option.some.injEq]at e;subst e;exact⟨af,nT _ _ _ _ _ e2 (o1.lt e1)⟩
 have hp2:jU (fo col w.heap.size w1.heap.size (.data p)) (w1.setCell ⟨p,3,none⟩ (.slice a1 (x.data.length+l.length) oZ)) P p {x with data:=x.data++l} (.slice a1 (x.data.length+l.length) oZ) xv:=by
  refine⟨?_,o1.kept ks (fun g e=>(hnb g e).1),fun g e=>(hnb g e).2,hp.gW.go kS (fun i hi e=>?_) hlt,by rw[hlt p Xy];exact hp.cB⟩
  ·exact(hp.blk.kept k1 (fun e=>F7 p e rfl)).set 3 _
  ·rcases hi with hi|hi
   ·rw[hi]at e;cases e
   ·rw[hi,hp.cB]at e;cases e
 have g2:cu col w (w1.setCell ⟨p,3,none⟩ (.slice a1 (x.data.length+l.length) oZ)) (fo col w.heap.size w1.heap.size (.data p)):=⟨kS.mono (fun i _ hi=>by
  show col i≠.out;rcases hi with hi|hi
  ·rw[hi];simp
  ·rw[hi,hp.cB];simp),hlt⟩
 have Qt:(x.data++l).length=x.data.length+l.length:=aD;have DU:Hid (Pl.nR m x l=if x.data.length+l.length<x.length then Pl.ask m {x with data:=x.data++l}else Pl.mO m x.gW (x.data++l)):=hide rfl;clear HF hsrc hdat c3 f3 q1 q2 hzs htop kS ks k1 s1 hlt hnb o1 hp h hdv;generalize w1.setCell ⟨p,3,none⟩ (.slice a1 (x.data.length+l.length) oZ)=W2 at*;generalize fo col w.heap.size w1.heap.size (.data p)=qR at*;have c2:=hp2.blk.cell 2;have c3:=hp2.blk.cell 3;have c5:=hp2.blk.cell 5;simp only[kZ,I,au]at c2 c3 c5;by_cases hlt:x.data.length+l.length<x.length
 ·have hlt':(x.data.length:Int)+(l.length:Int)<(x.length:Int):=af;go_quiet (fail);have x3:Ext W2 (W2.drewN nq):=ax.drewN nq;have HA:=hide (Pt qR (W2.drewN nq) P p m {x with data:=x.data++l} ps qs nv av wv hv gv _ xv (r2.ext x3) (hp2.go x3 id (fun _ f=>f.elim) (fun _ f=>f.elim) (fun _ _=>rfl)) hn (by have:=hb.bW;omega) (by have:=hb.asked;omega) hpl (by rw[Qt];exact hdl));clear r2 hp2 c2 c3 c5;generalize W2.drewN nq=W3 at*
  go_wp2_with fail
  refine(bH HA).mono ?_;rintro e w4 ⟨rfl,c4,PW,r4,g4⟩
  go_wp2_with fail
  go_end0
  rw[DU.out,if_pos hlt];exact⟨rfl,c4,r4.is,(g2.trans (cu.ext x3)).trans g4⟩
 ·have hlt':¬(x.data.length:Int)+(l.length:Int)<(x.length:Int):=af;go_quiet (fail);have x3:Ext W2 (W2.drewN nq):=ax.drewN nq;have r3:=r2.ext x3;have hp3:=hp2.go (bV:=qR) x3 id (fun _ f=>f.elim) (fun _ f=>f.elim) (fun _ _=>rfl);have c3':=x3.cell c3 id;have yw:=x3.cell c5 id;clear r2 hp2 c2 c3 c5;generalize W2.drewN nq=W3 at*;have hS:∀u,Ext W3 u→u.cell? ⟨p,3,none⟩=some (.slice a1 (x.data.length+l.length) oZ)∧u.cell? ⟨p,5,none⟩=some xv:=fun u hu=>⟨hu.cell c3' id,hu.cell yw id⟩
  have HS:=hide hS;clear hS c3' yw;have hx1:Ext W3 W3.drew:=ax.drew;have r4:=r3.ext hx1;have hp4:=hp3.go (bV:=qR) hx1 id (fun _ f=>f.elim) (fun _ f=>f.elim) (fun _ _=>rfl);have hCC:∀i,qR i=.data p→i<W3.drew.heap.size∧¬nG qR i:=by
   intro i hi;refine⟨?_,fun e=>?_⟩
   ·rcases Nat.lt_or_ge i W3.drew.heap.size with h|h
    ·exact h
    ·have:=r4.inn.top i h;rw[hi]at this;cases this
   ·rcases e with e|⟨g,e⟩
    ·rw[hi]at e;cases e
    ·rw[hi]at e;cases e
  obtain⟨ff,rr,hxv,hcf,hcall⟩:=Um (fun b=>qR b=.data p) qR W3.drew P m ps qs nv av wv hv gv r4 x.gW xv (.slice a1 (x.data.length+l.length) oZ) (x.data++l) hp4.gW hCC (by have:=hp4.data.row (fun b=>qR b=.data p) hp4.zM;exact this) (by rw[Qt];omega) hb (hw hlt);subst hxv
  go_wp2_with fail
  refine bZ (n:=8) (Ext W3) (by kernel_rfl) ?_;refine Late.h HS 0 [1,2,3,8] rfl hx1 ?_;refine Late.h HS 1 [2,3,8] rfl hx1 ?_;refine Late.h HS 2 [3,8] rfl hx1 ?_;refine Late.h HS 3 [8] rfl hx1 ?_;refine Late.h HS 4 [5,6,7,8] rfl hx1 ?_;refine Late.h HS 5 [6,7,8] rfl hx1 ?_;refine Late.h HS 6 [7,8] rfl hx1 ?_;refine Late.h HS 7 [8] rfl hx1 ?_;refine Late.o 8 rfl (fun K hK=>?_);refine fe rfl ff #[rr,.slice a1 (x.data.length+l.length) oZ] (by go_simp) ?_;refine hcall.mono ?_;rintro e w5 ⟨rfl,c5,s5,g5⟩;refine⟨_,rfl,hK _ _ (fun h=>absurd rfl h) ?_⟩;clear hK K;try simp only[lX]
  refine Late.done (by kernel_rfl) ?_ _
  go_end0
  rw[DU.out,if_neg hlt];exact⟨rfl,c5,s5,(g2.trans (cu.ext (x3.trans hx1))).trans g5⟩
theorem Rp (col:bU)(w:World)(P:Nat)(cs:List Value)(hl:cs.length=19)(hb:bK w P cs 142)(hc:col P=.scan)(ht:∀k,w.heap.size≤k→col k=.out):
 Calls Tryz.prog 81 #[PtrTo P 0] w fun e w'=>e=.returned (.tuple #[])∧fA col w' P (Pl.ended 4) [] [] (.slice none 0 0) (.slice none 0 0) (.slice none 0 0) (.slice none 0 0) (.slice none 0 0)∧Kp (fun k=>k=P) w w':=by
 go_enter Tryz.func81,Tryz.ntmps81
 go_wp2_with fail
 refine(pY col w P cs hl 4 (by decide) hb hc ht).mono ?_;rintro e w1 ⟨rfl,r1,k1⟩
 go_wp2_with fail
 go_end0
 exact⟨rfl,r1,k1⟩
def Rq :Value:=.agg #[.int .i64 0,.nilFunc]
theorem Ms :(Tryz.prog.info? 172).map (fun i=>(i.zero,i.size,i.bytes))=some (some Rq,2,16):=by kernel_rfl
theorem fA.Xz {col:bU}{w u w1:World}{P p t:Nat}{m:Pl.Sc}{x:Pl.Part}{ps qs:List Nat}{nv av wv hv gv dv xv wv':Value}(h:fA col w P m ps qs nv av wv hv gv)(hp:jU col w P p x dv xv)(hn:p∉ps++qs)(hu:Ext w u)(k:Kp (Of wv) u w1)(s:Sep u wv wv')(o:Own w1 2 wv' (m.waiting.length+1) (pV qs m.waiting++mP p (t,x))):
 fA (fo col w.heap.size w1.heap.size .wait) (w1.setCell ⟨P,11,none⟩ wv') P {m with waiting:=m.waiting++[(t,x)]} ps (qs++[p]) nv av wv' hv gv∧cu col w (w1.setCell ⟨P,11,none⟩ wv') (fo col w.heap.size w1.heap.size .wait):=by
 have kw:Kp (Of wv) w w1:=(Kp.cZ hu).trans k;have hc:∀i,i<w.heap.size→fo col w.heap.size w1.heap.size .wait i=col i:=fun i hi=>kH _ _ _ _ _ hi
 have hwv:∀i,Of wv i→col i=.wait:=fun i hi=>h.inn.jW i hi
 have hcalm:Calm col (Of wv):=Calm.one .wait hwv aj aj aj aj aj;have r:=h.inn.rest kw hcalm hc;have hp1:=hp.go kw (fun e=>hcalm.part p e hp.cB) (hcalm.data p) hcalm.ro hc;have Bj:=h.blk.lt;have Di:¬Of wv P:=fun e=>by have:=hwv P e;rw[h.inn.cB]at this;simp at this
 have hb1:=h.blk.kept kw Di;have hin:Inner (fo col w.heap.size w1.heap.size .wait) w1 P {m with waiting:=m.waiting++[(t,x)]} ps (qs++[p]) nv av wv' hv gv:=by
  refine⟨by rw[hc P Bj];exact h.inn.cB,fun i hi=>by rw[nS _ _ _ _ _ hi];exact h.inn.top i (aO kw.size hi),r.names,?_,fun g hg=>by rw[hc g (h.inn.asked.lt hg)];exact h.inn.jd g hg,r.eY,?_,fun g hg=>?_,r.gI.snoc (q:=(t,x)) hp1,?_,r.ahead,r.groups⟩
  ·exact h.inn.asked.kept kw (fun g hg hs=>by have:=hwv g hs;rw[h.inn.jd g hg]at this;simp at this)
  ·rw[Bh _ _ _ _ h.inn.gI.1];simpa using o
  ·rcases s with e|⟨g',e1,e2⟩
   ·rw[e]at hg;rw[hc g (h.inn.waiting.lt hg)];exact h.inn.jW g hg
   ·rw[e1]at hg;simp only[Option.some.injEq]at hg;subst hg;exact nT _ _ _ _ _ (by have:=hu.size;omega) (o.lt e1)
  ·rw[←aW,List.nodup_append];refine⟨h.inn.nodup,aj,fun a ha b hb=>?_⟩;simp at hb;subst hb;exact fun e=>hn (e▸ha)
 refine⟨⟨?_,hin.put (bI w1 P 11 wv') hb1.lt⟩,⟨?_,hc⟩⟩
 ·exact hb1.set 11 wv'
 ·refine(kw.mono (fun i _ hi=>?_)).setCell (p:=⟨P,11,none⟩) (.inl ?_) wv'
  ·show col i≠.out;rw[hwv i hi];simp
  ·show col P≠.out;rw[h.inn.cB];simp
theorem Rs (col:bU)(w:World)(P p:Nat)(m:Pl.Sc)(x:Pl.Part)(ps qs:List Nat)(nv av wv hv gv dv xv:Value)(h:fA col w P m ps qs nv av wv hv gv)(hp:jU col w P p x dv xv)(hn:p∉ps++qs)(hst:m.state=0)(_htr:m.tries≤100)(_hfl:x.failures+1≤m.tries)(Lr:x.failures≤10)(hwl:m.waiting.length≤1000):
 Calls Tryz.prog 119 #[PtrTo p 0] w fun e w'=>e=.returned (.tuple #[])∧∃bV,iW bV w' P (Pl.kT m x)∧cu col w w' bV:=by
 have c4:=hp.blk.cell 4;have f4:=hp.blk.free 4;simp only[kZ,I,au]at c4;have Xy:=hp.blk.lt;have YK:p≠P:=fun e=>by have:=hp.cB;rw[e,h.inn.cB]at this;simp at this
 have DT:Hid (Pl.kT m x=if x.failures+1=m.tries then Pl.ended 4 else{m with waiting:=m.waiting++[(2^x.failures,{x with failures:=x.failures+1})]}):=hide rfl;go_enter Tryz.func119,Tryz.ntmps119
 go_upto_region 1 with fail
 have ks:=bI w p 4 (.int .i64 ((x.failures:Int)+1));have h1:=h.Mq (bV:=col) (ks.mono (S':=fun i=>col i=.data p∨i=p) (fun _ _ e=>.inr e)) (fun i hi=>hi) hp.cB hn (fun _ _=>rfl) (fun i hi=>h.inn.top i (aO ks.size hi));have hp1:jU col (w.setCell ⟨p,4,none⟩ (.int .i64 ((x.failures:Int)+1))) P p {x with failures:=x.failures+1} dv xv:=by
  refine⟨?_,hp.data.kept ks (fun g e e'=>by have:=hp.zM g e;rw[e',hp.cB]at this;cases this),hp.zM,hp.gW.go ks (fun i hi e=>by rw[hi,hp.cB]at e;cases e) (fun _ _=>rfl),hp.cB⟩;have:=hp.blk.set 4 (.int .i64 ((x.failures:Int)+1));simpa[kZ,I]using this
 have g1:cu col w (w.setCell ⟨p,4,none⟩ (.int .i64 ((x.failures:Int)+1))) col:=⟨ks.mono (fun i _ hi=>by show col i≠.out;rw[hi,hp.cB];simp),fun _ _=>rfl⟩
 clear ks c4 f4 hp h;generalize w.setCell ⟨p,4,none⟩ (.int .i64 ((x.failures:Int)+1))=W1 at*;have c0:=hp1.blk.cell 0;have c4:=hp1.blk.cell 4;have s7:=h1.blk.cell 7;have s8:=h1.blk.cell 8;have s11:=h1.blk.cell 11;have f11:=h1.blk.free 11;simp only[kZ,dw,I,lT,hst,if_true,au,Int.natCast_add,Int.natCast_one]at c0 c4 s7 s8 s11;by_cases he:x.failures+1=m.tries
 ·have he':((x.failures:Int)+1)=(m.tries:Int):=af;rw[he']at c4;have HE:=hide he;clear he he' _hfl;go_quiet (fail);have x3:Ext W1 (W1.drewN nq):=ax.drewN nq;have r3:=h1.ext x3;have c0':=x3.cell c0 id;have s8':=x3.cell s8 id;clear c0 c4 s7 s8 s11 f11;generalize W1.drewN nq=W3 at*;have HG:=hide (Rp col W3 P _ (lV _ _ _ _ _ _ _) r3.blk r3.inn.cB r3.inn.top)
  go_wp2_with fail
  refine(bH HG).mono ?_;rintro e w4 ⟨rfl,r4,k4⟩
  go_wp2_with fail
  try simp only[Exit.inBlock,Exit.then]
  refine bodyPost_ret (results_none rfl _ _ _) rfl ?_;rw[DT.out,if_pos HE.out];obtain⟨a,b⟩:=r3.ends r4 k4;exact⟨rfl,col,a,(g1.trans (cu.ext x3)).trans b⟩
 ·have he':¬((x.failures:Int)+1)=(m.tries:Int):=af;go_quiet (fail);have x3:Ext W1 (W1.drewN nq):=ax.drewN nq;have r3:=h1.ext x3;have hp3:=hp1.go (bV:=col) x3 id (fun _ f=>f.elim) (fun _ f=>f.elim) (fun _ _=>rfl);have c4':=x3.cell c4 id;clear c0 c4 s7 s8 s11 f11;generalize W1.drewN nq=W3 at*
  go_wp2_with fail
  have EI:2^x.failures≤2^10:=Nat.pow_le_pow_right af Lr;have hws:wrap64 ((2:Int)^x.failures)=((2^x.failures:Nat):Int):=by
   rw[show(2:Int)^x.failures=((2^x.failures:Nat):Int)from aj];generalize 2^x.failures=t at EI⊢;unfold wrap64;omega
  rw[hws];obtain⟨tk,htk⟩:∃tk,tk=2^x.failures:=⟨_,rfl⟩
  rw[←htk];have zn:=hide htk;clear htk hws EI;have c0:=hp3.blk.cell 0;have s11:=r3.blk.cell 11;have f11:=r3.blk.free 11;simp only[kZ,dw,au]at c0 s11;have hwo:=r3.inn.waiting;obtain⟨wa,wc,rfl,_⟩:=r3.inn.waiting.shape;have hwv:∀k,(Value.slice wa m.waiting.length wc).ownBlock=some k→k≠p∧k≠P:=fun k hk=>by
   have e:=r3.inn.jW k hk;exact⟨fun e'=>by rw[e',hp3.cB]at e;simp at e,fun e'=>by rw[e',r3.inn.cB]at e;simp at e⟩
  have hS:∀u,Kp (fun k=>k≠p∧k≠P) W3 u→u.cell? ⟨p,0,none⟩=some (PtrTo P 7)∧u.cell? ⟨P,11,none⟩=some (.slice wa m.waiting.length wc):=fun u hu=>⟨hu.cell c0 aj,hu.cell s11 aj⟩
  have HS:=hide hS;clear hS;have hx1:Kp (fun k=>k≠p∧k≠P) W3 W3.drew:=ax.drew;have aiQ:=r3.blk.lt;refine bZ (n:=19) (Kp (fun k=>k≠p∧k≠P) W3) (by kernel_rfl) ?_;refine Late.h HS 0 [19] rfl hx1 ?_;refine Late.h HS 1 [19] rfl hx1 ?_;refine Late.h HS 2 [19] rfl hx1 ?_;refine Late.h HS 3 [19] rfl hx1 ?_;refine Late.h HS 4 [19] rfl hx1 ?_;refine Late.h HS 5 [19] rfl hx1 ?_;refine Late.h HS 6 [19] rfl hx1 ?_;refine Late.h HS 7 [19] rfl hx1 ?_;refine Late.h HS 8 [19] rfl hx1 ?_;refine Late.h HS 9 [19] rfl hx1 ?_;refine Late.h HS 10 [19] rfl hx1 ?_;refine Late.h HS 11 [19] rfl hx1 ?_;refine Late.h HS 12 [19] rfl hx1 ?_;refine Late.h HS 13 [19] rfl hx1 ?_;refine Late.h HS 14 [19] rfl hx1 ?_;refine Late.o 15 rfl (fun K hK=>?_);go_simp;refine hK _ _ (fun _=>hx1.alloc _) ?_;clear hK K;try simp only[lX]
  refine Late.o 16 rfl (fun K hK=>?_);refine d_ rfl _ _ 134 134 rfl 172 Rq 2 16 Tryz.underlying134 Ms rfl _ _ _ (by rfl) (hwo.ext (ax.drew.alloc _)) _ (by rfl) 1 _ (dO W3.drew W3.drew.heap.size rfl _ _ Tryz.underlying134 _ (mP p (tk,{x with failures:=x.failures+1})) rfl (by intro u hu;simp[mP]at hu;rcases hu with rfl|rfl<;>rfl)) af af ?_;intro v' w5 o5 k5 s5;have g5:Kp (fun k=>k≠p∧k≠P) W3 w5:=(hx1.alloc _).trans (k5.mono (fun i _ e=>hwv i e));refine hK _ _ (fun _=>g5) ?_;clear hK K;obtain⟨a',c',rfl,hc'⟩:=o5.shape;try simp only[lX]
  have ani:w5.cell? ⟨P,11,none⟩=some (.slice wa m.waiting.length wc):=g5.cell s11 aj;have f11':w5.frozen? ⟨P,11,none⟩=false:=by rw[World.frozen?_of_block (w:=W3) (a:=⟨P,11,none⟩) (g5.block P aiQ aj)];exact f11
  refine Late.o 17 rfl (fun K hK=>?_);go_simp;refine hK _ _ (fun _=>g5) ?_;clear hK K;try simp only[lX]
  refine Late.o 18 rfl (fun K hK=>?_);go_simp;refine hK _ _ (fun _=>g5) ?_;clear hK K;try simp only[lX]
  refine Late.o 19 rfl (fun K hK=>?_);go_simp;refine hK _ _ (fun h=>absurd rfl h) ?_;clear hK K;try simp only[lX]
  refine Late.done (by kernel_rfl) ?_ _
  go_end0
  rw[DT.out,if_neg he,←zn.out];obtain⟨r6,g6⟩:=r3.Xz hp3 hn ((ax.drew.alloc _)) k5 s5 o5;exact⟨rfl,_,r6.is,(g1.trans (cu.ext x3)).trans g6⟩
theorem OO (m:Pl.Sc)(i:Nat)(hi:i<m.asked.length):Pl.partAt m i=m.asked[i].2:=by unfold Pl.partAt;rw[aC,ay hi];rfl
structure wH (m:Pl.Sc)(x:Pl.Part):Prop where
 state:m.state=0
 tries:m.tries≤100
 left:x.failures+1≤m.tries
 few:x.failures≤10
 waits:m.waiting.length≤1000
theorem Jq (u:World)(a b c:Nat)(f g:Value):(Instr.field 169 (.agg #[.int .i64 a,.int .i64 b,.int .i64 c,f,g]) 2).run Tryz.prog u=.ok g u∧(Instr.field 169 (.agg #[.int .i64 a,.int .i64 b,.int .i64 c,f,g]) 1).run Tryz.prog u=.ok f u:=by
 constructor
 ·simp[Instr.field,asAgg,run_underlying Tryz.underlying169,go_sem]
 ·simp[Instr.field,asAgg,run_underlying Tryz.underlying169,go_sem]
theorem BR (col:bU)(w:World)(P:Nat)(m:Pl.Sc)(h:iW col w P m)(id:Int)(hal:m.asked.length≤1000)(hok:∀i,Pl.gM m.asked id=some i→wH m (Pl.partAt m i)):
 Calls Tryz.prog 87 #[PtrTo P 7,.int .i64 id] w fun e w'=>e=.returned (.int .i64 (Pl.fail m id).2)∧∃bV,iW bV w' P (Pl.fail m id).1∧cu col w w' bV:=by
 obtain⟨ps,qs,nv,av,wv,hv,gv,r⟩:=h;have wI:=hide (LY col w P m ps qs nv av wv hv gv r id hal);cases hfi:Pl.gM m.asked id with
 |none=>
  rw[hfi]at wI;simp only[nX]at wI;have HP:Hid (Pl.fail m id=(m,3)):=hide (by unfold Pl.fail;rw[hfi]);go_enter Tryz.func87,Tryz.ntmps87
  go_wp2_with (go_at_call 105;refine(bH wI).mono ?_;rintro e w1 ⟨rfl,x1⟩)
  go_ret;rw[HP.out];exact⟨rfl,col,(r.ext x1).is,cu.ext x1⟩
 |some i=>
  have hi:i<m.asked.length:=(List.findIdx?_eq_some_iff_getElem.1 hfi).1;have hf:=hok i hfi;rw[hfi]at wI;simp only[nX]at wI;have HP:Hid (Pl.fail m id=(Pl.kT (Pl.dF m i) (Pl.partAt m i),0)):=hide (by unfold Pl.fail;rw[hfi]);clear hok hfi;go_enter Tryz.func87,Tryz.ntmps87
  go_wp2_with (go_at_call 105;refine(bH wI).mono ?_;rintro e w1 ⟨rfl,x1⟩)
  refine(BG col w1 P m ps qs nv av wv hv gv (r.ext x1) i hi hal).mono ?_;rintro e w2 ⟨⟨ra,rb,rc,rfl⟩,zi,r2,g2,⟨dv,xv,hp2⟩,hn2⟩;have l8:=fun u=>(Jq u ra rb rc (fq 118 (PtrTo (ps.getD i 0) 0)) (fq 119 (PtrTo (ps.getD i 0) 0))).1
  generalize ps.getD i 0=pk at*;have HFA:=hide (Rs col w2 P pk (Pl.dF m i) (Pl.partAt m i) (ps.eraseIdx i) qs nv zi wv hv gv dv xv r2 hp2 hn2 hf.state hf.tries hf.left hf.few hf.waits);clear r2 hp2 hn2
  go_wp2_with fail
  refine(bH HFA).mono ?_;rintro e w3 ⟨rfl,c3,s3,g3⟩
  go_wp2_with fail
  go_ret;rw[HP.out];exact⟨rfl,c3,s3,((cu.ext x1).trans g2).trans g3⟩
structure KJ (m:Pl.Sc)(x:Pl.Part)(l:List UInt8):Prop where
 bnd:Ml m
 ends:x.place+x.length≤1000000
 data:x.data.length≤x.length
 whole:x.data.length+l.length=x.length→rD m x.gW (x.data++l)
theorem Ml.take {m:Pl.Sc}(h:Ml m)(i:Nat):Ml (Pl.dF m i):=⟨h.size,h.bW,by
 have:=h.asked;have h2:(m.asked.eraseIdx i).length≤m.asked.length:=(List.eraseIdx_sublist m.asked i).length_le;show(m.asked.eraseIdx i).length≤900;omega,h.want,h.gap,h.win,h.opened,h.ahead,h.pieces⟩
theorem rD.take {m:Pl.Sc}{gW:Pl.xK}{l:List UInt8}(h:rD m gW l)(i:Nat):rD (Pl.dF m i) gW l:=by cases gW<;>exact h
theorem Ik (col:bU)(w:World)(P:Nat)(m:Pl.Sc)(h:iW col w P m)(id:Int)(l:List UInt8)(hll:l.length≤2000000)(hal:m.asked.length≤1000)(hok:∀i,Pl.gM m.asked id=some i→wH m (Pl.partAt m i)∧(l.length≤(Pl.partAt m i).length-(Pl.partAt m i).data.length→l.length≠0→KJ m (Pl.partAt m i) l)∧(Pl.partAt m i).length≤1000000):
 Calls Tryz.prog 86 #[PtrTo P 7,.int .i64 id,tx l] w fun e w'=>e=.returned (.int .i64 (Pl.answer m id l).2)∧∃bV,iW bV w' P (Pl.answer m id l).1∧cu col w w' bV:=by
 have hIS:=h;obtain⟨ps,qs,nv,av,wv,hv,gv,r⟩:=h;have wI:=hide (LY col w P m ps qs nv av wv hv gv r id hal);have hsz:(⟨l.toArray⟩:ByteArray).size=l.length:=by simp[ByteArray.size]
 cases hfi:Pl.gM m.asked id with
 |none=>
  rw[hfi]at wI;simp only[nX]at wI;have HP:Hid (Pl.answer m id l=(m,3)):=hide (by unfold Pl.answer;rw[hfi]);go_enter Tryz.func86,Tryz.ntmps86
  go_wp2_with (go_at_call 105;refine(bH wI).mono ?_;rintro e w1 ⟨rfl,x1⟩)
  go_ret;rw[HP.out];exact⟨rfl,col,(r.ext x1).is,cu.ext x1⟩
 |some i=>
  have hi:i<m.asked.length:=(List.findIdx?_eq_some_iff_getElem.1 hfi).1;obtain⟨hf,EP,hpl⟩:=hok i hfi;have hpa:=OO m i hi;have s10:=r.blk.cell 10;simp only[dw,au]at s10;have hown:=r.inn.asked;obtain⟨g,cap,rfl,hcap,hgl,hc⟩:=hown.at af;have Rj:ps.length=m.asked.length:=r.inn.eY.1;have d2:w.cell? ⟨g,i*5+2,none⟩=some (.int .i64 (((Pl.partAt m i).length-(Pl.partAt m i).data.length:Nat):Int)):=by
   rw[hc (i*5+2) af,yg ps m.asked Rj i 2 hi af,hpa];rfl
  rw[hfi]at wI;simp only[nX]at wI;have HA:Hid (Pl.answer m id l=if(Pl.partAt m i).length-(Pl.partAt m i).data.length<l.length then(m,4)else if l.length=0 then Pl.fail m id else(Pl.nR (Pl.dF m i) (Pl.partAt m i) l,0)):=hide (by unfold Pl.answer;rw[hfi]);have anj:(Pl.partAt m i).length-(Pl.partAt m i).data.length≤1000000:=af;generalize hrm:(Pl.partAt m i).length-(Pl.partAt m i).data.length=rem at*;have HRM:=hide hrm;clear hrm hc hown;by_cases h4:rem<l.length
  ·have HP:Hid (Pl.answer m id l=(m,4)):=hide (by rw[HA.out,if_pos h4]);have h4':(rem:Int)<(l.length:Int):=af;clear hok EP hf hpa;go_enter Tryz.func86,Tryz.ntmps86
   go_wp2_with (go_at_call 105;refine(bH wI).mono ?_;rintro e w1 ⟨rfl,x1⟩;have Ew:=x1.cell s10 (fun f=>f);have uP:=x1.cell d2 (fun f=>f))
   go_ret;rw[HP.out];exact⟨rfl,col,(r.ext x1).is,cu.ext x1⟩
  ·have h4':¬(rem:Int)<(l.length:Int):=af;by_cases h0:l.length=0
   ·have HP:Hid (Pl.answer m id l=Pl.fail m id):=hide (by rw[HA.out,if_neg h4,if_pos h0]);have hl0:l=[]:=aT h0;subst hl0;have HFL:=hide (fun(u:World)(hu:Ext w u)=>BR col u P m (hIS.kept hu (fun _ f=>f.elim)) id hal (fun i h=>(hok i h).1));clear hok EP hf hpa h0;go_enter Tryz.func86,Tryz.ntmps86
    go_wp2_with (go_at_call 105;refine(bH wI).mono ?_;rintro e w1 ⟨rfl,x1⟩;have Ew:=x1.cell s10 (fun f=>f);have uP:=x1.cell d2 (fun f=>f))
    refine((bH HFL) w1 x1).mono ?_;rintro e w2 ⟨rfl,c2,s2,g2⟩
    go_wp2_with fail
    go_ret;rw[HP.out];exact⟨rfl,c2,s2,(cu.ext x1).trans g2⟩
   ·have HP:Hid (Pl.answer m id l=(Pl.nR (Pl.dF m i) (Pl.partAt m i) l,0)):=hide (by rw[HA.out,if_neg h4,if_neg h0]);have hne:l.isEmpty=false:=by cases l with
     |nil=>simp at h0
     |cons a t=>rfl
    have ha:=EP af h0;clear hok EP hpa HA;go_enter Tryz.func86,Tryz.ntmps86
    go_wp2_with (go_at_call 105;refine(bH wI).mono ?_;rintro e w1 ⟨rfl,x1⟩;have Ew:=x1.cell s10 (fun f=>f);have uP:=x1.cell d2 (fun f=>f))
    refine(BG col w1 P m ps qs nv _ wv hv gv (r.ext x1) i hi hal).mono ?_;rintro e w2 ⟨⟨ra,rb,rc,rfl⟩,zi,r2,g2,⟨dv,xv,hp2⟩,hn2⟩;have l8:=fun u=>(Jq u ra rb rc (fq 118 (PtrTo (ps.getD i 0) 0)) (fq 119 (PtrTo (ps.getD i 0) 0))).2
    generalize ps.getD i 0=pk at*;have hda:=ha.data;have hle:(Pl.partAt m i).data.length+l.length≤(Pl.partAt m i).length:=by have:=HRM.out;omega
    have HFA:=hide (Mr col w2 P pk (Pl.dF m i) (Pl.partAt m i) (ps.eraseIdx i) qs nv zi wv hv gv dv xv r2 hp2 hn2 l (ha.bnd.take i) ha.ends hle (fun h=>(ha.whole af).take i));clear r2 hp2 hn2
    go_wp2_with fail
    refine(bH HFA).mono ?_;rintro e w3 ⟨rfl,c3,s3,g3⟩
    go_wp2_with fail
    go_ret;rw[HP.out];exact⟨rfl,c3,s3,((cu.ext x1).trans g2).trans g3⟩
theorem F8 (ps:List Nat)(l:List (Nat×Pl.Part))(hl:ps.length=l.length)(i j:Nat)(hi:i<l.length)(hj:j<2):(pV ps l)[i*2+j]?=(mP (ps[i]'af) l[i])[j]?:=by
 unfold pV;refine jB 2 _ (fun e he=>?_) i j hj _ ?_
 ·rw[List.mem_iff_getElem]at he;obtain⟨k,hk,rfl⟩:=he;rw[List.getElem_zipWith];rfl
 ·rw[ay (by simp;omega),List.getElem_zipWith]
theorem PartsAt.drop {col:bU}{w:World}{P:Nat}{ps:List Nat}{l:List (Nat×Pl.Part)}(h:PartsAt col w P ps l)(k:Nat):PartsAt col w P (ps.drop k) (l.drop k):=
 ⟨by rw[bq,bq,h.1],fun i p q a b=>h.2 (k+i) p q (by rwa[List.getElem?_drop]at a) (by rwa[List.getElem?_drop]at b)⟩
structure Mt (m:Pl.Sc):Prop where
 bW:m.bW+m.waiting.length≤1000000000000
 asked:m.asked.length+m.waiting.length≤1000
 ticks:∀q∈m.waiting,1≤q.1∧q.1≤1000000
 parts:∀q∈m.waiting,q.2.place+q.2.length≤1000000∧q.2.data.length≤q.2.length
theorem DV (l:List (Nat×Pl.Part)):∀(m:Pl.Sc)(s:List (Nat×Pl.Part)),(l.foldl Pl.eO (m,s)).1.bW≤m.bW+l.length∧(l.foldl Pl.eO (m,s)).1.asked.length≤m.asked.length+l.length∧(l.foldl Pl.eO (m,s)).2.length≤s.length+l.length∧∀wt,l.foldl Pl.eO ({m with waiting:=wt},s)=({(l.foldl Pl.eO (m,s)).1 with waiting:=wt},(l.foldl Pl.eO (m,s)).2):=by
 induction l with
 |nil=>intro m s;exact⟨aj,aj,aj,fun wt=>rfl⟩
 |cons q l ih=>
  intro m s;rw[List.foldl_cons];by_cases h:1<q.1
  ·have e:Pl.eO (m,s) q=(m,s++[(q.1-1,q.2)]):=by unfold Pl.eO;rw[if_pos h]
   rw[e];obtain⟨a,b,c,d⟩:=ih m (s++[(q.1-1,q.2)]);simp at c⊢;refine⟨af,af,af,fun wt=>?_⟩;have e2:Pl.eO ({m with waiting:=wt},s) q=({m with waiting:=wt},s++[(q.1-1,q.2)]):=by unfold Pl.eO;rw[if_pos h]
   rw[e2];exact d wt
  ·have e:Pl.eO (m,s) q=(Pl.ask m q.2,s):=by unfold Pl.eO;rw[if_neg h]
   rw[e];obtain⟨a,b,c,d⟩:=ih (Pl.ask m q.2) s;have a':(Pl.ask m q.2).bW=m.bW+1:=rfl;have b':(Pl.ask m q.2).asked.length=m.asked.length+1:=by simp[Pl.ask]
   simp at c⊢;refine⟨af,af,af,fun wt=>?_⟩;have e2:Pl.eO ({m with waiting:=wt},s) q=({Pl.ask m q.2 with waiting:=wt},s):=by unfold Pl.eO;rw[if_neg h];rfl
   rw[e2];exact d wt
theorem Inner.acj {col:bU}{w:World}{P:Nat}{m:Pl.Sc}{ps qs:List Nat}{nv av wv hv gv:Value}(h:Inner col w P m ps qs nv av wv hv gv):Inner col w P {m with waiting:=[]} ps [] nv av (.slice none 0 0) hv gv:=
 ⟨h.cB,h.top,h.names,h.asked,h.jd,h.eY,Own.nil _ _,fun g e=>by simp[Value.ownBlock]at e,⟨rfl,fun i p q a=>by simp at a⟩,by
  have:=(List.nodup_append.1 h.nodup).1;simpa using this,h.ahead,h.groups⟩
theorem qU.XB {col bV:bU}{S:Nat→Prop}{w w':World}{P:Nat}{m:Pl.Sc}{ps:List Nat}{nv av wb hv gv:Value}(h:qU col w P m ps [] nv av wb (.slice none 0 0) hv gv)(k:Kp S w w')(hS:∀i,S i→col i=.wait)(hc:∀i,i<w.heap.size→bV i=col i)(ht:∀i,w'.heap.size≤i→bV i=.out):qU bV w' P m ps [] nv av wb (.slice none 0 0) hv gv:=by
 have hcalm:Calm col S:=Calm.one .wait hS aj aj aj aj aj;have r:=h.inn.rest k hcalm hc;refine⟨h.blk.kept k (fun e=>by have:=hS P e;rw[h.inn.cB]at this;cases this),by rw[hc P h.blk.lt];exact h.inn.cB,ht,r.names,?_,fun g hg=>by rw[hc g (h.inn.asked.lt hg)];exact h.inn.jd g hg,r.eY,?_,fun g e=>by simp[Value.ownBlock]at e,r.gI,h.inn.nodup,r.ahead,r.groups⟩
 ·exact h.inn.asked.kept k (fun g hg hs=>by have:=hS g hs;rw[h.inn.jd g hg]at this;cases this)
 ·exact h.inn.waiting.kept k (fun g e=>by simp[Value.ownBlock]at e)
theorem Mv (col:bU)(w:World)(P:Nat)(m:Pl.Sc)(h:iW col w P m)(hok:Mt m):
 Calls Tryz.prog 88 #[PtrTo P 7] w fun e w'=>e=.returned (.tuple #[])∧∃bV,iW bV w' P (Pl.tick m)∧cu col w w' bV:=by
 obtain⟨ps,qs,nv,av,wv,hv,gv,r⟩:=h;have s11:=r.blk.cell 11;simp only[dw,au]at s11;have hown:=r.inn.waiting;have kK:qs.length=m.waiting.length:=r.inn.gI.1;obtain⟨wa,wc,rfl,hwc⟩:=hown.shape;have hfr:=DV m.waiting m [];have Uj:=hide hfr;have FT:=r.blk.lt;have hwl:m.waiting.length≤1000:=by have:=hok.asked;omega
 go_enter Tryz.func88,Tryz.ntmps88
 go_wp2_with fail
 go_loopw [2,10] (fun t i wr=>∃(k:Nat)(dH:bU)(DW Jr:List Nat)(PX:Value),i=.int .i64 k∧k≤m.waiting.length∧qU dH wr P ((m.waiting.take k).foldl Pl.eO ({m with waiting:=[]},[])).1 DW [] nv PX (.slice wa m.waiting.length wc) (.slice none 0 0) hv gv∧Own wr 2 t ((m.waiting.take k).foldl Pl.eO ({m with waiting:=[]},[])).2.length (pV Jr ((m.waiting.take k).foldl Pl.eO ({m with waiting:=[]},[])).2)∧(∀g,t.ownBlock=some g→dH g=.wait∧(Value.slice wa m.waiting.length wc).ownBlock≠some g)∧PartsAt dH wr P Jr ((m.waiting.take k).foldl Pl.eO ({m with waiting:=[]},[])).2∧PartsAt dH wr P (qs.drop k) (m.waiting.drop k)∧Own wr 2 (.slice wa m.waiting.length wc) m.waiting.length (pV qs m.waiting)∧(∀g,(Value.slice wa m.waiting.length wc).ownBlock=some g→dH g=.wait)∧(DW++Jr++qs.drop k).Nodup∧cu col w wr dH) (fun _ i _=>m.waiting.length-(intOf i).toNat)
 case atStart=>exact⟨0,col,ps,[],av,rfl,af,⟨r.blk,r.inn.acj⟩,Own.nil _ _,fun g e=>by simp[Value.ownBlock]at e,⟨rfl,fun i p q a=>by simp at a⟩,r.inn.gI,hown,r.inn.jW,by simpa using r.inn.nodup,cu.refl _ _⟩
 case round=>
  obtain⟨k,dH,DW,Jr,PX,rfl,hk,hR,ho,htc,ER,hrest,hold,hoc,hnd,hW⟩:=hrel;clear hown s11;by_cases hkl:k<m.waiting.length
  ·have hstep:(m.waiting.take (k+1)).foldl Pl.eO ({m with waiting:=[]},[])=Pl.eO ((m.waiting.take k).foldl Pl.eO ({m with waiting:=[]},[])) m.waiting[k]:=by
    rw[aF hkl,List.foldl_append];rfl
   have HST:=hide hstep;clear hstep;have Dt:=DV (m.waiting.take k) {m with waiting:=[]} [];have ack:=Dt.1;have acn:=Dt.2.1;have aco:=Dt.2.2.1;rw[aU,Nat.min_eq_left hk]at ack acn aco;simp only[List.length_nil,Nat.zero_add]at aco;clear Dt;generalize(m.waiting.take k).foldl Pl.eO ({m with waiting:=[]},[])=st at*;obtain⟨mk,still⟩:=st;simp only at*;have aiR:mk.bW≤1000000000000:=by have:=hok.bW;have:mk.bW≤m.bW+k:=ack;omega
   have zS:mk.asked.length≤1000:=by have:=hok.asked;have:mk.asked.length≤m.asked.length+k:=acn;omega
   have htk:=hok.ticks m.waiting[k] (aJ hkl);have hpk:=hok.parts m.waiting[k] (aJ hkl);obtain⟨gb,cap,he,hcap,ank,hcell⟩:=hold.at af;cases he;have d0:=(hcell (k*2+0) af).trans (F8 qs m.waiting kK k 0 hkl af);have d1:=(hcell (k*2+1) af).trans (F8 qs m.waiting kK k 1 hkl af);simp only[mP,I,au,Nat.add_zero]at d0 d1;have hdq:qs.drop k=qs[k]'af::qs.drop (k+1):=aV af;have hdw:m.waiting.drop k=m.waiting[k]::m.waiting.drop (k+1):=aV hkl;have F9:PartsAt dH wr P (qs.drop (k+1)) (m.waiting.drop (k+1)):=by
    have:=hrest.drop 1;rw[List.drop_drop,List.drop_drop]at this;exact this
   obtain⟨dv,xv,hpart⟩:=hrest.2 0 (qs[k]'af) m.waiting[k] (by rw[hdq];rfl) (by rw[hdw];rfl);rw[hdq]at hnd;generalize m.waiting[k]=q at*;generalize qs[k]'af=pk at*;obtain⟨tq,xq⟩:=q;simp only at*;obtain⟨ta,Js,rfl,_⟩:=ho.shape;clear hcell hrest hdq hdw;by_cases h1:1<tq
   ·have h1':(0:Int)<(tq:Int)-1:=af;have Mw:Hid (Pl.eO (mk,still) (tq,xq)=(mk,still++[(tq-1,xq)])):=hide (by unfold Pl.eO;rw[if_pos h1]);have Jt:(tq:Int)-1=((tq-1:Nat):Int):=af
    go_upto_region 6 with fail
    have x2:Ext wr (wr.alloc (.cells #[.int .i64 (tq-1:Nat),fq 102 (PtrTo pk 0)] 172)):=ax.alloc _;have b2:=bK.bO wr [.int .i64 (tq-1:Nat),fq 102 (PtrTo pk 0)] 172;generalize wr.alloc (.cells #[.int .i64 (tq-1:Nat),fq 102 (PtrTo pk 0)] 172)=W2 at*;have e0:=b2.cell 0;have e1:=b2.cell 1;simp only[au]at e0 e1
    go_wp2_with (at_builtin;go_must (refine dI _ rfl _ _ 134 134 rfl 172 Rq 2 16 Tryz.underlying134 Ms rfl _ _ _ rfl ((ho.ext x2).dV _) _ rfl 1 _ (dO W2 W2.heap.size rfl _ _ Tryz.underlying134 _ (mP pk (tq-1,xq)) rfl (by intro u hu;simp[mP]at hu;rcases hu with rfl|rfl<;>rfl)) af af ?_);intro v5 w5 o5 k5 s5)
    have hz2:=x2.size;have kk:Kp (Of (.slice ta still.length Js)) wr w5:=(Kp.cZ (x2.alloc _)).trans k5;have hlt:∀i,i<wr.heap.size→fo dH wr.heap.size w5.heap.size .wait i=dH i:=fun i hi=>kH _ _ _ _ _ hi
    have hwt:∀i,Of (.slice ta still.length Js) i→dH i=.wait:=fun i e=>(htc i e).1
    have hcalm:Calm dH (Of (.slice ta still.length Js)):=Calm.one .wait hwt aj aj aj aj aj;have htop:∀i,w5.heap.size≤i→fo dH wr.heap.size w5.heap.size .wait i=.out:=fun i hi=>by rw[nS _ _ _ _ _ hi];exact hR.inn.top i (aO kk.size hi)
    have acr:=hpart.go (bV:=fo dH wr.heap.size w5.heap.size .wait) kk (fun e=>hcalm.part pk e hpart.cB) (hcalm.data pk) hcalm.ro hlt;have Tz:=(ER.go (bV:=fo dH wr.heap.size w5.heap.size .wait) kk (fun p hp hs=>hcalm.part p hs (ER.lt hp).2) (fun p _=>hcalm.data p) hcalm.ro hlt).snoc (q:=(tq-1,xq)) acr;refine⟨⟨k+1,fo dH wr.heap.size w5.heap.size .wait,DW,Jr++[pk],PX,by go_num,af,?_,?_,fun g e=>?_,?_,F9.go kk (fun p hp hs=>hcalm.part p hs (F9.lt hp).2) (fun p _=>hcalm.data p) hcalm.ro hlt,hold.kept kk (fun g e hs=>(htc g hs).2 e),fun g e=>by rw[hlt g (hold.lt e)];exact hoc g e,by simpa using hnd,hW.trans ⟨kk.mono (fun i _ hi=>by show dH i≠.out;rw[hwt i hi];simp),hlt⟩⟩,by simp[intOf];omega⟩
    ·rw[HST.out,Mw.out];exact hR.XB kk hwt hlt htop
    ·rw[HST.out,Mw.out,Bh _ _ _ _ ER.1];simpa using o5
    ·rcases s5 with e'|⟨g',Jg,e2'⟩
     ·rw[e']at e;exact⟨by rw[hlt g (ho.lt e)];exact(htc g e).1,(htc g e).2⟩
     ·rw[Jg]at e;simp only[Option.some.injEq]at e;subst e;simp at e2';refine⟨nT _ _ _ _ _ af (o5.lt Jg),fun e=>?_⟩;have:=hold.lt e;omega
    ·rw[HST.out,Mw.out];exact Tz
   ·obtain rfl:tq=1:=af;have Mw:Hid (Pl.eO (mk,still) (1,xq)=(Pl.ask mk xq,still)):=hide (by unfold Pl.eO;rw[if_neg af])
    go_upto_region 7 with fail
    have x2:Ext wr (wr.alloc (.cells #[.int .i64 0,fq 102 (PtrTo pk 0)] 172)):=ax.alloc _;have b2:=bK.bO wr [.int .i64 0,fq 102 (PtrTo pk 0)] 172;generalize wr.alloc (.cells #[.int .i64 0,fq 102 (PtrTo pk 0)] 172)=W2 at*;have e1:=b2.cell 1;simp only[au]at e1;have hpn:pk∉DW++[]:=fun hm=>by
     rw[List.append_nil]at hm;rw[aW,List.nodup_append]at hnd;exact hnd.2.2 pk hm pk (aI.2 (.inr List.mem_cons_self)) rfl
    have HA:=hide (XA dH W2 P pk mk xq DW [] nv PX _ _ hv gv dv xv (hR.ext x2) (hpart.go x2 id (fun _ f=>f.elim) (fun _ f=>f.elim) (fun _ _=>rfl)) hpn aiR zS hpk.1 hpk.2)
    go_wp2_with fail
    refine(bH HA).mono ?_;rintro e w5 ⟨rfl,c5,BS,r5,g5,k5⟩
    go_wp2_with fail
    have hz2:=x2.size;have hsame:∀i,i<wr.heap.size→c5 i=dH i:=fun i hi=>g5.same i af
    have kk:Kp (fun i=>i=P∨dH i=.asked) wr w5:=(Kp.cZ x2).trans k5;have hno:∀(c:Col),c≠.scan→c≠.asked→∀i,(i=P∨dH i=.asked)→dH i≠c:=fun c h1 h2 i hi e=>by
     rcases hi with hi|hi
     ·rw[hi,hR.inn.cB]at e;exact h1 e.symm
     ·rw[hi]at e;exact h2 e.symm
    have hnp:∀q,dH q=.part→¬(q=P∨dH q=.asked):=fun q hq hs=>hno .part aj aj q hs hq
    refine⟨⟨k+1,c5,DW++[pk],Jr,BS,by go_num,af,?_,?_,fun g e=>⟨by rw[hsame g (ho.lt e)];exact(htc g e).1,(htc g e).2⟩,?_,F9.go kk (fun p hp=>hnp p (F9.lt hp).2) (fun p _=>hno _ aj aj) (hno _ aj aj) hsame,hold.kept kk (fun g e hs=>hno .wait aj aj g hs (hoc g e)),fun g e=>by rw[hsame g (hold.lt e)];exact hoc g e,?_,hW.trans ((cu.ext x2).trans g5)⟩,by simp[intOf];omega⟩
    ·rw[HST.out,Mw.out];exact r5
    ·rw[HST.out,Mw.out];exact ho.kept kk (fun g e hs=>hno .wait aj aj g hs (htc g e).1)
    ·rw[HST.out,Mw.out];exact ER.go kk (fun p hp=>hnp p (ER.lt hp).2) (fun p _=>hno _ aj aj) (hno _ aj aj) hsame
    ·refine(List.Perm.nodup_iff ?_).1 hnd;simp only[aW];refine List.Perm.append_left DW ?_;simp
  ·obtain rfl:k=m.waiting.length:=af;have hall:=(Uj.out).2.2.2 [];rw[aX,hall]at hR ho ER;have zn:Hid (Pl.tick m={(m.waiting.foldl Pl.eO (m,[])).1 with waiting:=(m.waiting.foldl Pl.eO (m,[])).2}):=hide rfl;clear hall hfr Uj;generalize m.waiting.foldl Pl.eO (m,[])=st at*;obtain⟨mf,still⟩:=st;simp only at*;obtain⟨ta,Js,rfl,_⟩:=ho.shape;have c11:=hR.blk.cell 11;have f11:=hR.blk.free 11;simp only[dw,au]at c11
   go_wp2_with fail
   go_end0
   rw[zn.out];have ks:=bI wr P 11 (.slice ta still.length Js);have hin:Inner dH wr P {mf with waiting:=still} DW Jr nv PX (.slice ta still.length Js) hv gv:=by
    have i0:=hR.inn;refine⟨i0.cB,i0.top,i0.names,i0.asked,i0.jd,i0.eY,ho,fun g e=>(htc g e).1,ER,?_,i0.ahead,i0.groups⟩;rw[List.drop_eq_nil_of_le af,List.append_nil]at hnd;exact hnd
   have hrep:fA dH (wr.setCell ⟨P,11,none⟩ (.slice ta still.length Js)) P {mf with waiting:=still} DW Jr nv PX (.slice ta still.length Js) hv gv:=⟨hR.blk.set 11 _,hin.put ks hR.blk.lt⟩
   exact⟨rfl,dH,hrep.is,hW.trans ⟨ks.mono (fun i _ hi=>by show dH i≠.out;rw[hi,hR.inn.cB];simp),fun _ _=>rfl⟩⟩
theorem iW.Ad {col bV:bU}{w:World}{P:Nat}{m:Pl.Sc}(h:iW col w P m)(hc:∀i c,c≠.box→c≠.out→col i=c→bV i=c)(ht:∀i,w.heap.size≤i→bV i=.out):iW bV w P m:=by
 obtain⟨ps,qs,nv,av,wv,hv,gv,r⟩:=h;have hi:=r.inn;have hro:∀{sz:Nat}{v:Value}{n:Nat}{cs:List Value},bM (fun b=>col b=.ro) false w sz v n cs→bM (fun b=>bV b=.ro) false w sz v n cs:=fun h=>h.go (S:=fun _=>False) ax (fun _ _ f=>f) (fun i _ e=>hc i .ro aj aj e)
 have Mx:∀{v:Value}{a:Pl.xK},xM col w P v a→xM bV w P v a:=fun{v a}h=>by
  cases a with
  |tail=>exact h
  |footer=>exact h
  |piece p=>obtain⟨pv,e,hp⟩:=h;exact⟨pv,e,hro hp⟩
 have hpart:∀{p:Nat}{x:Pl.Part}{dv xv:Value},jU col w P p x dv xv→jU bV w P p x dv xv:=fun h=>⟨h.blk,h.data,fun g e=>hc g _ aj aj (h.zM g e),Mx h.gW,hc _ _ aj aj h.cB⟩
 have hparts:∀{ps:List Nat}{l:List (Nat×Pl.Part)},PartsAt col w P ps l→PartsAt bV w P ps l:=fun h=>⟨h.1,fun i p q a b=>let⟨dv,xv,e⟩:=h.2 i p q a b;⟨dv,xv,hpart e⟩⟩
 refine⟨ps,qs,nv,av,wv,hv,gv,r.blk,hc _ _ aj aj hi.cB,ht,hro hi.names,hi.asked,fun g e=>hc g _ aj aj (hi.jd g e),hparts hi.eY,hi.waiting,fun g e=>hc g _ aj aj (hi.jW g e),hparts hi.gI,hi.nodup,?_,?_⟩
 ·obtain⟨bJ,h1,h2,h3⟩:=hi.ahead;exact⟨bJ,h1,hro h2,fun i pv p a b=>hro (h3 i pv p a b)⟩
 ·obtain⟨eG,h1,h2,h3⟩:=hi.groups;refine⟨eG,h1,h2.go (S:=fun _=>False) ax (fun _ _ f=>f) (fun i _ e=>hc i _ aj aj e),fun i lv g a b=>?_⟩;obtain⟨vs,q1,q2,q3⟩:=h3 i lv g a b;exact⟨vs,q1,q2.go (S:=fun _=>False) ax (fun _ _ f=>f) (fun j _ e=>hc j _ aj aj e),fun j u l a b=>hro (q3 j u l a b)⟩
theorem mq.inner {col:bU}{w:World}{X P:Nat}{m:Pl.Sc}(h:mq col w X m P):iW (fun k=>if k=X then .out else col k) w P m∧∀w' m' C_,iW C_ w' P m'→cu (fun k=>if k=X then .out else col k) w w' C_→∃bV,mq bV w' X m' P∧cu col w w' bV:=by
 have hXl:=h.blk.lt;have htop:∀i,w.heap.size≤i→col i=.out:=by obtain⟨ps,qs,nv,av,wv,hv,gv,r⟩:=h.sc;exact r.inn.top
 refine⟨h.sc.Ad (fun i c h1 h2 e=>?_) (fun i hi=>?_),fun w' m' C_ hs hw=>?_⟩
 ·by_cases hi:i=X
  ·rw[hi,h.Hu]at e;exact absurd e.symm h1
  ·simp only[if_neg hi];exact e
 ·by_cases hi':i=X
  ·simp only[if_pos hi']
  ·simp only[if_neg hi'];exact htop i hi
 ·have aiS:C_ X=.out:=by have:=hw.same X hXl;simp only[if_true]at this;exact this
  have acu:∀i,w'.heap.size≤i→C_ i=.out:=by obtain⟨ps,qs,nv,av,wv,hv,gv,r⟩:=hs;exact r.inn.top
  refine⟨fun k=>if k=X then .box else C_ k,⟨h.blk.kept hw.kept (fun e=>by unfold Mine at e;simp at e),aj,hs.Ad (fun i c h1 h2 e=>?_) (fun i hi=>?_)⟩,⟨hw.kept.mono (fun i _ e=>?_),fun i hi=>?_⟩⟩
  ·by_cases hi:i=X
   ·rw[hi,aiS]at e;exact absurd e.symm h2
   ·simp only[if_neg hi];exact e
  ·have:=hw.kept.size;simp only[if_neg (show i≠X from af)];exact acu i hi
  ·unfold Mine at e⊢;by_cases hi:i=X
   ·rw[hi,h.Hu];simp
   ·simp only[if_neg hi]at e;exact e
  ·by_cases hi':i=X
   ·simp only[if_pos hi'];rw[hi',h.Hu]
   ·simp only[if_neg hi'];have:=hw.same i hi;rw[if_neg hi']at this;exact this
theorem OP (col:bU)(w:World)(X P:Nat)(m:Pl.Sc)(h:mq col w X m P)(id:Int)(l:List UInt8)(hll:l.length≤2000000)(hal:m.asked.length≤1000)(hok:∀i,Pl.gM m.asked id=some i→wH m (Pl.partAt m i)∧(l.length≤(Pl.partAt m i).length-(Pl.partAt m i).data.length→l.length≠0→KJ m (Pl.partAt m i) l)∧(Pl.partAt m i).length≤1000000):
 Calls Tryz.prog 26 #[PtrTo X 0,.int .i64 id,tx l] w fun e w'=>e=.returned (.int .i64 (Pl.answer m id l).2)∧∃bV,mq bV w' X (Pl.answer m id l).1 P∧cu col w w' bV:=by
 have c0:=h.blk.cell 0;simp only[aA]at c0;obtain⟨h1,h2⟩:=h.inner;have hsc:Calls Tryz.prog 56 #[PtrTo P 0,.int .i64 id,tx l] w fun e w'=>e=.returned (.int .i64 (Pl.answer m id l).2)∧∃bV,iW bV w' P (Pl.answer m id l).1∧cu (fun k=>if k=X then .out else col k) w w' bV:=by
  have HC:=hide (Ik _ w P m h1 id l hll hal hok);clear h h1 h2 c0 hok;go_enter Tryz.func56,Tryz.ntmps56
  go_wp2_with fail
  refine(bH HC).mono ?_;rintro e w1 ⟨rfl,c1,s1,g1⟩
  go_wp2_with fail
  go_ret;exact⟨rfl,c1,s1,g1⟩
 have HC:=hide hsc;have H2:=hide h2;clear hsc h h1 h2 hok;go_enter Tryz.func26,Tryz.ntmps26
 go_wp2_with fail
 refine(bH HC).mono ?_;rintro e w1 ⟨rfl,c1,s1,g1⟩
 go_wp2_with fail
 go_ret;exact⟨rfl,H2.out _ _ _ s1 g1⟩
theorem Un (col:bU)(w:World)(X P:Nat)(m:Pl.Sc)(h:mq col w X m P)(id:Int)(hal:m.asked.length≤1000)(hok:∀i,Pl.gM m.asked id=some i→wH m (Pl.partAt m i)):
 Calls Tryz.prog 27 #[PtrTo X 0,.int .i64 id] w fun e w'=>e=.returned (.int .i64 (Pl.fail m id).2)∧∃bV,mq bV w' X (Pl.fail m id).1 P∧cu col w w' bV:=by
 have c0:=h.blk.cell 0;simp only[aA]at c0;obtain⟨h1,h2⟩:=h.inner;have hsc:Calls Tryz.prog 57 #[PtrTo P 0,.int .i64 id] w fun e w'=>e=.returned (.int .i64 (Pl.fail m id).2)∧∃bV,iW bV w' P (Pl.fail m id).1∧cu (fun k=>if k=X then .out else col k) w w' bV:=by
  have HC:=hide (BR _ w P m h1 id hal hok);clear h h1 h2 c0 hok;go_enter Tryz.func57,Tryz.ntmps57
  go_wp2_with fail
  refine(bH HC).mono ?_;rintro e w1 ⟨rfl,c1,s1,g1⟩
  go_wp2_with fail
  go_ret;exact⟨rfl,c1,s1,g1⟩
 have HC:=hide hsc;have H2:=hide h2;clear hsc h h1 h2 hok;go_enter Tryz.func27,Tryz.ntmps27
 go_wp2_with fail
 refine(bH HC).mono ?_;rintro e w1 ⟨rfl,c1,s1,g1⟩
 go_wp2_with fail
 go_ret;exact⟨rfl,H2.out _ _ _ s1 g1⟩
theorem Uo (col:bU)(w:World)(X P:Nat)(m:Pl.Sc)(h:mq col w X m P)(hok:Mt m):
 Calls Tryz.prog 28 #[PtrTo X 0] w fun e w'=>e=.returned (.tuple #[])∧∃bV,mq bV w' X (Pl.tick m) P∧cu col w w' bV:=by
 have c0:=h.blk.cell 0;simp only[aA]at c0;obtain⟨h1,h2⟩:=h.inner;have hsc:Calls Tryz.prog 58 #[PtrTo P 0] w fun e w'=>e=.returned (.tuple #[])∧∃bV,iW bV w' P (Pl.tick m)∧cu (fun k=>if k=X then .out else col k) w w' bV:=by
  have HC:=hide (Mv _ w P m h1 hok);clear h h1 h2 c0 hok;go_enter Tryz.func58,Tryz.ntmps58
  go_wp2_with fail
  refine(bH HC).mono ?_;rintro e w1 ⟨rfl,c1,s1,g1⟩
  go_wp2_with fail
  go_end0
  exact⟨rfl,c1,s1,g1⟩
 have HC:=hide hsc;have H2:=hide h2;clear hsc h h1 h2 hok;go_enter Tryz.func28,Tryz.ntmps28
 go_wp2_with fail
 refine(bH HC).mono ?_;rintro e w1 ⟨rfl,c1,s1,g1⟩
 go_wp2_with fail
 go_end0
 exact⟨rfl,H2.out _ _ _ s1 g1⟩
theorem OQ (col:bU)(w:World)(X P:Nat)(m:Pl.Sc)(h:mq col w X m P)(_hst:m.state≤10):
 Calls Tryz.prog 25 #[PtrTo X 0] w fun e w'=>e=.returned (.tuple #[])∧∃bV,mq bV w' X (Pl.cancel m) P∧cu col w w' bV:=by
 have c0:=h.blk.cell 0;simp only[aA]at c0;obtain⟨h1,h2⟩:=h.inner;have hsc:Calls Tryz.prog 55 #[PtrTo P 0] w fun e w'=>e=.returned (.tuple #[])∧∃bV,iW bV w' P (Pl.cancel m)∧cu (fun k=>if k=X then .out else col k) w w' bV:=by
  obtain⟨ps,qs,nv,av,wv,hv,gv,r⟩:=h1;have s0:=r.blk.cell 0;simp only[dw,I,aA]at s0;clear h h2 c0;by_cases hs0:m.state=0
  ·have HP:Hid (Pl.cancel m=Pl.ended 5):=hide (by unfold Pl.cancel;rw[if_pos hs0]);rw[hs0]at s0;go_enter Tryz.func55,Tryz.ntmps55
   go_wp2_with fail
   refine(pY _ w P _ (lV _ _ _ _ _ _ _) 5 (by decide) r.blk r.inn.cB r.inn.top).mono ?_;rintro e w1 ⟨rfl,r1,k1⟩
   go_wp2_with fail
   go_end0
   rw[HP.out];obtain⟨a,b⟩:=r.ends r1 k1;exact⟨rfl,_,a,b⟩
  ·have HP:Hid (Pl.cancel m=m):=hide (by unfold Pl.cancel;rw[if_neg hs0]);have hs1:((m.state:Int)==0)=false:=by simpa using hs0
   go_enter Tryz.func55,Tryz.ntmps55
   go_wp2_with fail
   go_end0
   rw[HP.out];exact⟨rfl,_,r.is,cu.refl _ _⟩
 have HC:=hide hsc;have H2:=hide h2;clear hsc h h1 h2;go_enter Tryz.func25,Tryz.ntmps25
 go_wp2_with fail
 refine(bH HC).mono ?_;rintro e w1 ⟨rfl,c1,s1,g1⟩
 go_wp2_with fail
 go_end0
 exact⟨rfl,H2.out _ _ _ s1 g1⟩
theorem XC (w:World)(P:Nat)(n:Nat)(c:w.cell? ⟨P,18,none⟩=some (.int .i64 (n:Int))):Calls Tryz.prog 90 #[PtrTo P 14] w fun e w'=>e=.returned (.int .i64 (n:Int))∧w'=w:=by
 go_enter Tryz.func90,Tryz.ntmps90
 go_wp2_with fail
 go_ret;exact⟨rfl,rfl⟩
theorem PY (t e:TypeId)(h:Tryz.prog.underlying t=some (.slice e))(u:World):(binOp .neq t (.slice none 0 0) (.slice none 0 0)).run Tryz.prog u=.ok (.bool false) u:=by
 have h1:∀d,(Op.equalIn (d+1) t (.slice none 0 0) (.slice none 0 0)).run Tryz.prog u=.ok true u:=fun d=>by simp[Op.equalIn,run_underlying h]
 simp only[binOp];simp[Op.equal,Op.maxDepth,h1 9999]
theorem MB (t e:TypeId)(h:Tryz.prog.underlying t=some (.slice e))(a:Addr)(n c:Nat)(u:World):(binOp .neq t (.slice (some a) n c) (.slice none 0 0)).run Tryz.prog u=.ok (.bool true) u:=by
 have h1:∀d,(Op.equalIn (d+1) t (.slice (some a) n c) (.slice none 0 0)).run Tryz.prog u=.ok false u:=fun d=>by simp[Op.equalIn,run_underlying h]
 simp only[binOp];simp[Op.equal,Op.maxDepth,h1 9999]
structure F_ (m:Pl.Sc):Prop where
 most:m.dh≤1000000
 rows:LH m.rows
 bD:m.rows.columns≤1000
 ready:Pl.eF m.rows≤1000000000
 takes:Pl.iy m.rows m.dh≤Pl.eF m.rows→C9 m.rows (Pl.iy m.rows m.dh)
theorem Rt {r:Pl.Rw}{most:Nat}{ls:List (List Int)}(h:(Pl.dQ r most).1=some ls):ls.length=r.columns:=by
 unfold Pl.dQ at h;split at h
 ·cases h
 ·simp only[Option.some.injEq]at h;rw[←h];simp
theorem Ru (col:bU)(w:World)(P:Nat)(m:Pl.Sc)(h:iW col w P m)(hok:F_ m)(hleft:(Pl.dQ m.rows m.dh).2.left≤1000000000):
 Calls Tryz.prog 59 #[PtrTo P 0] w fun e w'=>((Pl.next m).2=none∧e=.returned (.slice none 0 0)∨∃ls Lb vs,(Pl.next m).2=some ls∧e=.returned (.slice (some ⟨Lb,0,none⟩) ls.length ls.length)∧iM (fun g=>w.heap.size≤g) w' Lb vs ls)∧iW col w' P (Pl.next m).1∧cu col w w' col:=by
 obtain⟨ps,qs,nv,av,wv,hv,gv,hr⟩:=h;have s5:=hr.blk.cell 5;simp only[dw,I,au]at s5;have hnr:=hok.most;have HNX:=hide (fun u(hu:Ext w u)=>LV col u P m ps qs nv av wv hv gv (hr.ext hu) m.dh hok.most hok.rows hok.bD hok.ready hok.takes);have HLF:=hide hleft;clear hleft hok;have hnn:=PY 51 _ Tryz.underlying51;have hns:=MB 51 _ Tryz.underlying51;go_enter Tryz.func59,Tryz.ntmps59
 go_wp2_with fail
 have hx1:w.drew.cell? ⟨P,5,none⟩=some (.int .i64 (m.dh:Int)):=s5;refine bZ (n:=8) (fun u=>u.cell? ⟨P,5,none⟩=some (.int .i64 (m.dh:Int))) (by kernel_rfl) ?_;refine Late.t 0 [1,2,8] rfl hx1 ?_;refine Late.t 1 [2,8] rfl hx1 ?_;refine Late.t 2 [8] rfl hx1 ?_;refine Late.t 3 [4,5,6,7,8] rfl hx1 ?_;refine Late.t 4 [5,6,7,8] rfl hx1 ?_;refine Late.t 5 [6,7,8] rfl hx1 ?_;refine Late.t 6 [7,8] rfl hx1 ?_;refine Late.t 7 [8] rfl hx1 ?_;refine Late.o 8 rfl (fun K hK=>?_);refine fe rfl 89 #[PtrTo P 14,.int .i64 (m.dh:Int)] (by go_simp) ?_;refine((bH HNX) w.drew (ax.drew)).mono ?_;have xd:Ext w w.drew:=ax.drew;have Ga:∀i,(i=P∨col i=.groups)→Mine col i:=fun i e=>by
  rcases e with e|e
  ·show col i≠.out;rw[e,hr.inn.cB];simp
  ·show col i≠.out;rw[e];simp
 rintro e w1 (⟨hn0,rfl,x1⟩|⟨ls,Lb,vs,gv1,hn1,rfl,hx,hr1,k1⟩)
 ·have h1:=hr.ext (xd.trans x1);have t5:=h1.blk.cell 5;simp only[dw,I,au]at t5;refine⟨_,rfl,hK _ _ (fun _=>t5) ?_⟩;clear hK K;try simp only[lX]
  refine Late.o 9 rfl (fun K hK=>?_);go_simp;refine hK _ _ (fun _=>t5) ?_;clear hK K;try simp only[lX]
  refine Late.done (by kernel_rfl) ?_ _;have HN:Hid (Pl.next m=(m,none)):=hide (by unfold Pl.next;simp only;rw[hn0]);clear hn0
  go_wp2_with fail
  go_ret;rw[HN.out];exact⟨.inl ⟨rfl,rfl⟩,h1.is,cu.ext (xd.trans x1)⟩
 ·have t5:=hr1.blk.cell 5;have t18:=hr1.blk.cell 18;simp only[dw,I,au]at t5 t18;refine⟨_,rfl,hK _ _ (fun _=>t5) ?_⟩;clear hK K;try simp only[lX]
  refine Late.o 9 rfl (fun K hK=>?_);go_simp;refine hK _ _ (fun _=>t5) ?_;clear hK K;try simp only[lX]
  refine Late.done (by kernel_rfl) ?_ _;have hln:=Rt hn1;have HX:=hide hx;have BA:=hide hn1;have kw:Kp (fun k=>k=P∨col k=.groups) w w1:=(Kp.cZ xd).trans k1;have hwz:w.drew.heap.size=w.heap.size:=rfl;rw[hwz]at HX;have HL:=hide hln;have hlf:=HLF.out;clear hx hn1 hln hwz t5 s5 hx1;obtain⟨lf,XD⟩:∃lf,lf=(Pl.dQ m.rows m.dh).2.left:=⟨_,rfl⟩
  have Dy:=hide XD;rw[←XD]at hlf t18;clear XD HLF;have Y2:=hide (XC w1 P lf t18);by_cases hz:lf=0
  ·have HN:Hid (Pl.next m=(Pl.ended 1,some ls)):=hide (by unfold Pl.next;simp only;rw[BA.out];simp only;rw[if_pos (by rw[←Dy.out];exact hz)]);clear Dy;subst hz;have HE:=hide (pY col w1 P _ (lV _ _ _ _ _ _ _) 1 (by decide) hr1.blk hr1.inn.cB hr1.inn.top)
   go_wp2_with (first|(go_at_call 90;refine(bH Y2).mono ?_;rintro e w2 ⟨rfl,rfl⟩)|(go_at_call 82;refine(bH HE).mono ?_;rintro e w3 ⟨rfl,r3,k3⟩)|fail)
   go_ret;rw[HN.out];refine⟨.inr ⟨ls,Lb,vs,rfl,by rw[HL.out];rfl,HX.out.kept k3 (fun g hg _ e=>?_)⟩,r3.is,kw.mono (fun i _ e=>Ga i e)|>.trans (k3.mono (fun i _ e=>Ga i (.inl e))),fun _ _=>rfl⟩;have:=hr.blk.lt;have hg:w.heap.size≤g:=hg;omega
  ·have HN:Hid (Pl.next m=({m with rows:=(Pl.dQ m.rows m.dh).2},some ls)):=hide (by unfold Pl.next;simp only;rw[BA.out];simp only;rw[if_neg (by rw[←Dy.out];exact hz)]);clear Dy;have hzi:¬(lf:Int)=0:=af
   go_wp2_with (first|(go_at_call 90;refine(bH Y2).mono ?_;rintro e w2 ⟨rfl,rfl⟩)|fail)
   go_ret;rw[HN.out];exact⟨.inr ⟨ls,Lb,vs,rfl,by rw[HL.out];rfl,HX.out⟩,hr1.is,kw.mono (fun i _ e=>Ga i e),fun _ _=>rfl⟩
section
open Pl
def jY (pend:List cK)(g:Nat):List cK:=pend.filter fun x=>decide (x.group=g)
theorem sj {pend:List cK}{g:Nat}(h:(jY pend g).length=0):∀x∈pend,x.group≠g:=fun x hx e=>by
 have:x∈jY pend g:=List.mem_filter.2 ⟨hx,by simp[e]⟩;rw[aT h]at this;cases this
structure iF (r:Rw)(pend:List cK):Prop where
 few:r.gone+r.groups.length≤6
 bD:r.columns≤4
 nH:∀i G,r.groups[i]?=some G→1≤G.rows∧G.rows≤20∧G.lists.length=r.columns∧G.missing=(jY pend (r.gone+i)).length∧∀(c:Nat)l,G.lists[c]?=some l→l.length=G.rows∨∃x∈pend,x.group=r.gone+i∧x.column=c
 DX:∀x∈pend,r.gone≤x.group∧x.group<r.gone+r.groups.length∧x.column<r.columns
 ES:∀x∈pend,(r.groups[x.group-r.gone]?).map (·.rows)=some x.rows
 pl:pend.length≤1000
 row:r.row=0∨∃G rest,r.groups=G::rest∧G.missing=0∧r.row<G.rows
 left:r.left+r.row=(r.groups.map (·.rows)).sum
theorem XE {l:List gF}(h:∀G∈l,G.rows≤20):(l.map (·.rows)).sum≤20*l.length:=by
 induction l with
 |nil=>simp
 |cons a r ih=>have:=ih (fun G hG=>h G (by simp[hG]));have:=h a aj;simp only[List.map_cons,List.sum_cons,aR];omega
theorem Uq (l:List gF):fu l≤(l.map (·.rows)).sum:=by
 induction l with
 |nil=>simp[fu]
 |cons a r ih=>simp only[fu,List.map_cons,List.sum_cons];split<;>omega
theorem iF.mem {r:Rw}{pend:List cK}(h:iF r pend){G:gF}(hG:G∈r.groups):1≤G.rows∧G.rows≤20∧G.missing≤1000:=by
 obtain⟨i,hi,rfl⟩:=List.mem_iff_getElem.1 hG;obtain⟨h1,h2,-,h4,-⟩:=h.nH i _ (ay hi);refine⟨h1,h2,?_⟩;rw[h4];exact aO (List.length_filter_le _ _) h.pl
theorem iF.total {r:Rw}{pend:List cK}(h:iF r pend):(r.groups.map (·.rows)).sum≤120:=by
 have h1:=XE (l:=r.groups) (fun G hG=>(h.mem hG).2.1);have:=h.few;omega
theorem iF.ok {r:Rw}{pend:List cK}(h:iF r pend):LH r:=by
 have hf:=h.few;have ht:=h.total;have hl:=h.left;refine⟨af,fun g hg=>by have:=(h.mem hg).2.1;omega,fun g hg=>by have:=(h.mem hg).2.2;omega,?_,af,af⟩;rcases h.row with e|⟨G,rest,e,hm,hr⟩
 ·omega
 ·rw[e];simp only[fu];rw[if_neg af];omega
theorem iF.MC {r:Rw}{pend:List cK}(h:iF r pend):eF r≤120:=by
 have:=Uq r.groups;have:=h.total;unfold eF;omega
theorem iF.first {r:Rw}{pend:List cK}(h:iF r pend)(hr:0<eF r):∃G rest,LK r G rest∧G.missing=0:=by
 unfold eF at hr;cases hg:r.groups with
 |nil=>rw[hg]at hr;simp[fu]at hr
 |cons G rest=>
  have hm:G.missing=0:=by
   rw[hg]at hr;simp only[fu]at hr;by_cases e:0<G.missing
   ·rw[if_pos e]at hr;omega
   ·omega
  have hG:G∈r.groups:=by rw[hg];simp
  obtain⟨g1,g2,g3,g4,g5⟩:=h.nH 0 G (by rw[hg];rfl);have hf:=h.few;rw[hg,aR]at hf;have hrow:r.row<G.rows:=by
   rcases h.row with e|⟨G',rest',e,-,hr'⟩
   ·omega
   ·rw[hg]at e;cases e;exact hr'
  have hl:=h.left;have ht:=h.total;have hcc:=h.bD;rw[hg,List.map_cons,List.sum_cons]at hl ht;refine⟨G,rest,⟨hg,af,g3,fun l hl=>?_,hrow,af,af,af,af,af⟩,hm⟩
  ·obtain⟨c,hc,rfl⟩:=List.mem_iff_getElem.1 hl;rcases g5 c _ (ay hc)with e|⟨x,hx,hxg,-⟩
   ·exact e
   ·exact absurd hxg (sj (by rw[←g4];exact hm) x hx)
theorem iF.take {r:Rw}{pend:List cK}(h:iF r pend)(hr:0<eF r):iF (gG r).2 pend∧eF (gG r).2=eF r-1∧(gG r).2.columns=r.columns∧(gG r).2.left=r.left-1∧1≤r.left:=by
 obtain⟨G,rest,ht,hm⟩:=h.first hr;have hg:=ht.groups;have hrow:=ht.row;have hl:=h.left;have ME:=h.few;rw[hg,List.map_cons,List.sum_cons]at hl;rw[hg,aR]at ME;have hd:r.groups.getD 0 default=G:=by rw[hg];rfl
 obtain⟨g1,g2,g3,g4,g5⟩:=h.nH 0 G (by rw[hg];rfl);have hpn:=sj (show(jY pend (r.gone+0)).length=0 by rw[←g4];exact hm);have hF:fu r.groups=G.rows+fu rest:=by rw[hg];simp only[fu];rw[if_neg af]
 unfold gG;simp only[hd];by_cases he:r.row+1=G.rows
 ·rw[if_pos he];have hd1:r.groups.drop 1=rest:=by rw[hg];rfl
  refine⟨⟨?_,h.bD,fun i G' hG'=>?_,fun x hx=>?_,fun x hx=>?_,h.pl,.inl rfl,?_⟩,?_,rfl,rfl,af⟩
  ·show r.gone+1+(r.groups.drop 1).length≤6;rw[hd1];omega
  ·have aiT:r.groups[i+1]?=some G':=by rw[hg];have:(r.groups.drop 1)[i]?=some G':=hG';rw[hd1]at this;exact this
   have:=h.nH (i+1) G' aiT;rw[show r.gone+(i+1)=r.gone+1+i from af]at this;exact this
  ·obtain⟨p1,p2,p3⟩:=h.DX x hx;have p4:=hpn x hx;refine⟨?_,?_,p3⟩
   ·show r.gone+1≤x.group;omega
   ·show x.group<r.gone+1+(r.groups.drop 1).length;rw[hd1];rw[hg,aR]at p2;omega
  ·obtain⟨p1,-,-⟩:=h.DX x hx;have p4:=hpn x hx;have:=h.ES x hx;show((r.groups.drop 1)[x.group-(r.gone+1)]?).map (·.rows)=some x.rows;rw[List.getElem?_drop,show 1+(x.group-(r.gone+1))=x.group-r.gone from af];exact this
  ·show r.left-1+0=((r.groups.drop 1).map (·.rows)).sum;rw[hd1];omega
  ·show fu (r.groups.drop 1)-0=fu r.groups-r.row-1;rw[hd1,hF];omega
 ·rw[if_neg he];refine⟨⟨h.few,h.bD,h.nH,h.DX,h.ES,h.pl,.inr ⟨G,rest,hg,hm,?_⟩,?_⟩,?_,rfl,rfl,af⟩
  ·show r.row+1<G.rows;omega
  ·show r.left-1+(r.row+1)=(r.groups.map (·.rows)).sum;rw[hg,List.map_cons,List.sum_cons];omega
  ·show fu r.groups-(r.row+1)=fu r.groups-r.row-1;omega
theorem iF.takeN {r:Rw}{pend:List cK}(h:iF r pend):∀j,j≤eF r→iF (jw r j) pend∧eF (jw r j)=eF r-j∧(jw r j).columns=r.columns∧(jw r j).left=r.left-j
 |0,_=>⟨h,by simp[jw,iter],rfl,by simp[jw,iter]⟩
 |j+1,hj=>by
  obtain⟨h1,h2,h3,h4⟩:=h.takeN j af;obtain⟨t1,t2,t3,t4,-⟩:=h1.take af;exact⟨t1,t2.trans (by rw[h2];omega),t3.trans h3,t4.trans (by rw[h4];omega)⟩
theorem iF.takes {r:Rw}{pend:List cK}(h:iF r pend)(cnt:Nat)(hc:cnt≤eF r):C9 r cnt:=fun j hj=>by
 obtain⟨h1,h2,h3,-⟩:=h.takeN j af;have hp:0<eF (jw r j):=af;obtain⟨G,rest,ht,-⟩:=h1.first hp;exact⟨h1.ok,hp,by have:=h1.MC;omega,h3,G,rest,ht⟩
theorem iF.next {r:Rw}{pend:List cK}(h:iF r pend)(most:Nat):iF (dQ r most).2 pend∧(dQ r most).2.columns=r.columns:=by
 unfold dQ;split
 ·exact⟨h,rfl⟩
 ·obtain⟨h1,-,h3,-⟩:=h.takeN (iy r most) af;exact⟨h1,h3⟩
theorem iF.BU {m:Sc}{pend:List cK}(h:iF m.rows pend)(hn:m.dh≤20):F_ m∧(dQ m.rows m.dh).2.left≤1000000000:=
 ⟨⟨af,h.ok,by have:=h.bD;omega,by have:=h.MC;omega,fun hc=>h.takes _ hc⟩,by
  have h1:=(h.next m.dh).1;have:=h1.total;have:=h1.left;omega⟩
theorem aap (least most:Nat)(r:dS)(h:least≤most):least≤(di least most r).1∧(di least most r).1≤most:=by
 unfold di;split
 ·exact⟨aK _,h⟩
 ·simp only;omega
theorem Ju :∀(f left:Nat)(s:List Int×dS),left≤f→(jA f left s).1.length=s.1.length+left
 |0,left,s,h=>by simp[jA];omega
 |f+1,left,s,h=>by
  unfold jA;split
  ·omega
  ·have h1:=aap 1 left s.2 af;rw[Ju f _ _ af];simp only[aD,List.length_replicate];omega
theorem Gb (r:dS):∀k,(iter fG k ([],r)).1.length=k
 |0=>rfl
 |k+1=>by rw[show iter fG (k+1) ([],r)=fG (iter fG k ([],r))from rfl];simp[fG,Gb r k]
theorem DY (r:dS):∀k,(iter dL k ([],0,r)).1.length=k
 |0=>rfl
 |k+1=>by rw[show iter dL (k+1) ([],0,r)=dL (iter dL k ([],0,r))from rfl];simp[dL,DY r k]
theorem wJ {data:List UInt8}{rows:Nat}{l:List Int}(h:gD data rows=some l):l.length=rows:=by
 unfold gD at h;simp only at h;generalize dX (data,false)=k at h;by_cases h3:3≤k.1
 ·rw[if_pos h3]at h;cases h
 ·rw[if_neg h3]at h;obtain⟨s,hs⟩:∃s:List Int×dS,s=if k.1=0 then iter fG rows ([],k.2)else if k.1=1 then jA rows rows ([],k.2)else((iter dL rows ([],0,k.2)).1,(iter dL rows ([],0,k.2)).2.2):=⟨_,rfl⟩
  rw[←hs]at h;have hl:s.1.length=rows:=by
   rw[hs];by_cases h0:k.1=0
   ·rw[if_pos h0];exact Gb _ _
   ·rw[if_neg h0];by_cases h1:k.1=1
    ·rw[if_pos h1,Ju _ _ _ (aK _)];simp
    ·rw[if_neg h1];exact DY _ _
  by_cases hr:iN s.2=true
  ·rw[if_pos hr]at h;cases h;exact hl
  ·rw[if_neg hr]at h;cases h
theorem Jv {p:Piece}{x:cK}{data:List UInt8}{l:List Int}(h:uz p x data=some l):l.length=x.rows:=by
 unfold uz at h;split at h
 ·exact wJ h
 ·cases h
theorem iF.put {r:Rw}{x:cK}{pend:List cK}(h:iF r (x::pend))(l:List Int)(hl:l.length=x.rows):iF (kz r x.group x.column l) pend∧∃G,r.groups[x.group-r.gone]?=some G∧x.column<G.lists.length∧1≤G.missing∧G.missing≤1000000:=by
 obtain⟨p1,p2,p3⟩:=h.DX x aj;have hi:x.group-r.gone<r.groups.length:=af;obtain⟨G,hG⟩:∃G,r.groups[x.group-r.gone]?=some G:=⟨_,ay hi⟩
 have hpr:=h.ES x aj;rw[hG]at hpr;have hGr:G.rows=x.rows:=by simpa using hpr
 obtain⟨g1,g2,g3,g4,g5⟩:=h.nH _ G hG;rw[show r.gone+(x.group-r.gone)=x.group from af]at g4 g5;have hc:∀g,(jY (x::pend) g).length=(jY pend g).length+if x.group=g then 1 else 0:=fun g=>by
  unfold jY;by_cases e:x.group=g
  ·rw[List.filter_cons_of_pos (by simp[e]),if_pos e];simp
  ·rw[List.filter_cons_of_neg (by simp[e]),if_neg e];simp
 have hm1:G.missing=(jY pend x.group).length+1:=by rw[g4,hc,if_pos rfl]
 have hpl:=h.pl;simp only[aR]at hpl;have hfl:(jY pend x.group).length≤pend.length:=List.length_filter_le _ _;refine⟨?_,G,hG,af,af,af⟩;have hlen:(kz r x.group x.column l).groups.length=r.groups.length:=BQ _ _ _ _;have hget:∀(i:Nat)G',(kz r x.group x.column l).groups[i]?=some G'→(i=x.group-r.gone∧G'={G with lists:=G.lists.set x.column l,missing:=G.missing-1})∨(i≠x.group-r.gone∧r.groups[i]?=some G'):=fun i G' hG'=>by
  unfold kz at hG';simp only[List.getElem?_modify]at hG';by_cases e:x.group-r.gone=i
  ·left;subst e;rw[hG]at hG';simp at hG';exact⟨rfl,hG'.symm⟩
  ·right;refine⟨fun e'=>e e'.symm,?_⟩;cases hh:r.groups[i]? with
   |none=>rw[hh]at hG';simp at hG'
   |some G2=>rw[hh]at hG';simp[e]at hG';rw[hG']
 have hrows:((kz r x.group x.column l).groups.map (·.rows))=r.groups.map (·.rows):=by
  apply List.ext_getElem?;intro i;unfold kz;simp only[aN,List.getElem?_modify];cases hh:r.groups[i]? with
  |none=>simp
  |some G2=>by_cases e:x.group-r.gone=i<;>simp[e]
 refine⟨by rw[hlen];exact h.few,h.bD,fun i G' hG'=>?_,fun y hy=>?_,fun y hy=>?_,af,?_,?_⟩
 ·rcases hget i G' hG' with⟨rfl,rfl⟩|⟨hne,hG2⟩
  ·refine⟨g1,g2,(List.length_set).trans g3,?_,fun c q hq=>?_⟩
   ·show G.missing-1=(jY pend (r.gone+(x.group-r.gone))).length;rw[show r.gone+(x.group-r.gone)=x.group from af];omega
   ·have hq:(G.lists.set x.column l)[c]?=some q:=hq;show q.length=G.rows∨∃y∈pend,y.group=r.gone+(x.group-r.gone)∧y.column=c;rw[show r.gone+(x.group-r.gone)=x.group from af];by_cases e:c=x.column
    ·subst e;rw[List.getElem?_set_self af]at hq;cases hq;exact .inl (hl.trans hGr.symm)
    ·rw[List.getElem?_set_ne (Ne.symm e)]at hq;rcases g5 c q hq with e'|⟨y,hy,hyg,Y3⟩
     ·exact .inl e'
     ·rcases List.mem_cons.1 hy with rfl|hy
      ·exact absurd Y3.symm e
      ·exact .inr ⟨y,hy,hyg,Y3⟩
  ·obtain⟨k1,k2,k3,k4,k5⟩:=h.nH i G' hG2;have hxg:x.group≠r.gone+i:=af;refine⟨k1,k2,k3,?_,fun c q hq=>?_⟩
   ·show G'.missing=(jY pend (r.gone+i)).length;rw[k4,hc,if_neg hxg];rfl
   ·rcases k5 c q hq with e'|⟨y,hy,hyg,Y3⟩
    ·exact .inl e'
    ·rcases List.mem_cons.1 hy with rfl|hy
     ·exact absurd hyg hxg
     ·exact .inr ⟨y,hy,hyg,Y3⟩
 ·rw[hlen];exact h.DX y (by simp[hy])
 ·have:=h.ES y (by simp[hy]);have e1:((kz r x.group x.column l).groups[y.group-r.gone]?).map (·.rows)=(r.groups[y.group-r.gone]?).map (·.rows):=by
   rw[←aN,←aN,hrows]
  exact e1.trans this
 ·rcases h.row with e|⟨G0,rest,e,hm,hr⟩
  ·exact .inl e
  ·have h0:x.group-r.gone≠0:=fun e0=>by
    rw[e0,e]at hG;simp at hG;subst hG;omega
   obtain⟨q,hq⟩:∃q,x.group-r.gone=q+1:=⟨x.group-r.gone-1,af⟩
   have:(kz r x.group x.column l).groups=G0::rest.modify q (fun y=>{y with lists:=y.lists.set x.column l,missing:=y.missing-1}):=by unfold kz;simp only;rw[e,hq];rfl
   exact .inr ⟨G0,_,this,hm,hr⟩
 ·rw[hrows];exact h.left
end
section
open Pl
theorem iF.puts {p:Piece}{data:List UInt8}:∀(pages:List cK)(r:Rw)(pend:List cK),iF r (pages++pend)→BP p data pages r∧∀r',mM p data pages r=some r'→iF r' pend∧r'.columns=r.columns
 |[],r,pend,h=>⟨trivial,fun r' e=>by unfold mM at e;cases e;exact⟨h,rfl⟩⟩
 |x::t,r,pend,h=>by
  refine⟨fun l hl=>?_,fun r' e=>?_⟩
  ·obtain⟨h1,h2⟩:=iF.put (pend:=t++pend) h l (Jv hl);exact⟨⟨(h.DX x aj).1,h2⟩,(iF.puts t _ pend h1).1⟩
  ·unfold mM at e;cases hl:uz p x data with
   |none=>rw[hl]at e;cases e
   |some l=>
    rw[hl]at e;obtain⟨h1,-⟩:=iF.put (pend:=t++pend) h l (Jv hl);obtain⟨a,b⟩:=(iF.puts t _ pend h1).2 r' e;exact⟨a,b⟩
theorem iF.perm {r:Rw}{pend Zv:List cK}(h:iF r pend)(hp:pend.Perm Zv):iF r Zv:=by
 refine⟨h.few,h.bD,fun i G hG=>?_,fun x hx=>h.DX x (hp.mem_iff.2 hx),fun x hx=>h.ES x (hp.mem_iff.2 hx),by rw[←hp.length_eq];exact h.pl,h.row,h.left⟩;obtain⟨g1,g2,g3,g4,g5⟩:=h.nH i G hG;refine⟨g1,g2,g3,by rw[g4];exact(hp.filter _).length_eq,fun c l hl=>(g5 c l hl).imp id (fun⟨x,hx,e⟩=>⟨x,hp.mem_iff.1 hx,e⟩)⟩
def mZ :xK→List cK
 |.piece p=>p.pages
 |_=>[]
def qg :xK→Bool
 |.piece _=>true
 |_=>false
structure M6 (p:Piece):Prop where
 len:1≤p.length
 ends:p.place+p.length≤5000
 pages:∀y∈p.pages,Xx p p.length y
 few:p.pages.length≤4
structure RV (size tries:Nat)(x:Part):Prop where
 ends:x.place+x.length≤5000
 data:x.data.length<x.length
 fails:x.failures+1≤tries
 footer:x.gW=.footer→x.length+10≤size
 piece:∀p,x.gW=.piece p→x.length=p.length∧M6 p
def pend (L:List Part)(ahead:List Piece):List cK:=L.flatMap (fun x=>mZ x.gW)++ahead.flatMap (·.pages)
structure Core (m:Sc)(L:List Part)(N:Nat):Prop where
 state:m.state=0
 size:m.size≤4000
 want:m.want.length≤4
 gap:m.gap≤32
 win:m.win≤4
 pI:1≤m.tries
 tries:m.tries≤4
 dh:m.dh≤20
 parts:∀x∈L,RV m.size m.tries x
 ahead:∀p∈m.ahead,M6 p
 qF:m.ahead.length≤24
 opened:m.opened=(L.filter fun x=>qg x.gW).length
 uF:m.opened≤m.win
 first:(∃x∈L,qg x.gW=false)→L.length=1∧m.ahead=[]
 rows:iF m.rows (pend L m.ahead)
 bW:m.bW≤N
theorem U0 {L L':List Part}(h:L.Perm L')(a:List Piece):(pend L a).Perm (pend L' a):=(h.flatMap_right _).append_right _
theorem Core.perm {m:Sc}{L L':List Part}{N:Nat}(h:Core m L N)(hp:L.Perm L'):Core m L' N:=
 ⟨h.state,h.size,h.want,h.gap,h.win,h.pI,h.tries,h.dh,fun x hx=>h.parts x (hp.mem_iff.2 hx),h.ahead,h.qF,by rw[h.opened];exact(hp.filter _).length_eq,h.uF,fun⟨x,hx,e⟩=>by rw[←hp.length_eq];exact h.first ⟨x,hp.mem_iff.2 hx,e⟩,h.rows.perm (U0 hp _),h.bW⟩
theorem Core.few {m:Sc}{L:List Part}{N:Nat}(h:Core m L N):L.length≤4:=by
 by_cases hx:∃x∈L,qg x.gW=false
 ·have:=(h.first hx).1;omega
 ·have:L.filter (fun x=>qg x.gW)=L:=List.filter_eq_self.2 (fun x hxL=>by
   cases e:qg x.gW with
   |true=>rfl
   |false=>exact absurd ⟨x,hxL,e⟩ hx)
  have h1:=h.opened;rw[this]at h1;have:=h.uF;have:=h.win;omega
theorem Core.more {m:Sc}{L:List Part}{N:Nat}{p:Piece}{r:List Piece}(h:Core m L N)(ha:m.ahead=p::r)(hw:m.opened<m.win):Core (oQ {m with ahead:=r,opened:=m.opened+1} p.place p.length (.piece p)) (L++[⟨p.place,p.length,[],0,.piece p⟩]) (N+1):=by
 have hp:=h.ahead p (by rw[ha];simp);have hno:¬∃x∈L,qg x.gW=false:=fun hx=>by have:=(h.first hx).2;rw[ha]at this;cases this
 have hal:=h.qF;rw[ha,aR]at hal;refine⟨h.state,h.size,h.want,h.gap,h.win,h.pI,h.tries,h.dh,fun x hx=>?_,fun q hq=>h.ahead q (by rw[ha];exact List.mem_cons_of_mem _ hq),by show r.length≤24;omega,?_,by show m.opened+1≤m.win;omega,fun⟨x,hx,e⟩=>?_,?_,Nat.succ_le_succ h.bW⟩
 ·rcases aI.1 hx with hx|hx
  ·exact h.parts x hx
  ·simp at hx;subst hx;exact⟨hp.ends,hp.len,h.pI,(fun e=>by cases e),fun q e=>by cases e;exact⟨rfl,hp⟩⟩
 ·show m.opened+1=_;rw[List.filter_append,aD,←h.opened];rfl
 ·rcases aI.1 hx with hx|hx
  ·exact absurd ⟨x,hx,e⟩ hno
  ·simp at hx;subst hx;cases e
 ·refine h.rows.perm ?_;rw[ha];unfold pend;show(L.flatMap (fun x=>mZ x.gW)++(p::r).flatMap (·.pages)).Perm ((L++[(⟨p.place,p.length,[],0,.piece p⟩:Part)]).flatMap (fun x:Part=>mZ x.gW)++r.flatMap (·.pages));rw[List.flatMap_append,List.flatMap_cons,aW];simp[mZ]
def partsOf (m:Sc):List Part:=m.asked.map (·.2)++m.waiting.map (·.2)
theorem Ef (m:Sc)(p:Part):(partsOf m++[p]).Perm (partsOf (Pl.ask m p)):=by
 unfold partsOf Pl.ask;simp only[a_,List.map_cons,List.map_nil,aW];exact List.perm_append_comm.append_left _
theorem Core.JG :∀(f:Nat)(m:Sc)(N:Nat),Core m (partsOf m) N→Core (fO f m) (partsOf (fO f m)) (N+f)∧(fO f m).waiting=m.waiting
 |0,m,N,h=>⟨h,rfl⟩
 |f+1,m,N,h=>by
  unfold fO;cases ha:m.ahead with
  |nil=>exact⟨{h with bW:=aO h.bW af},rfl⟩
  |cons p r=>
   simp only;by_cases hw:m.opened<m.win
   ·rw[if_pos hw];have h1:=(h.more ha hw).perm (Ef {m with ahead:=r,opened:=m.opened+1} ⟨p.place,p.length,[],0,.piece p⟩);obtain⟨h2,h3⟩:=Core.JG f _ (N+1) h1;rw[show N+(f+1)=N+1+f from af];exact⟨h2,h3⟩
   ·rw[if_neg hw];exact⟨{h with bW:=aO h.bW af},rfl⟩
structure Going (m:Sc)(N:Nat):Prop where
 core:Core m (partsOf m) N
 ticks:∀q∈m.waiting,1≤q.1∧q.1≤16
def Good (m:Sc)(N:Nat):Prop:=(∃why,why≠0∧why≤10∧m=ended why)∨Going m N
theorem Good.mono {m:Sc}{N N':Nat}(h:Good m N)(hn:N≤N'):Good m N':=h.imp id (fun g=>⟨{g.core with bW:=aO g.core.bW hn},g.ticks⟩)
theorem Going.fV {m:Sc}{N:Nat}(h:Going m N):Going (Pl.fV m) (N+24):=by
 obtain⟨h1,h2⟩:=Core.JG m.ahead.length m N h.core;have:=h.core.qF;exact⟨{h1 with bW:=aO h1.bW af},by unfold Pl.fV;rw[h2];exact h.ticks⟩
theorem M7 :iF ({}:Rw) []:=⟨by decide,by decide,(fun i G hG=>by simp at hG),(fun x hx=>by cases hx),(fun x hx=>by cases hx),by decide,.inl rfl,rfl⟩
theorem Good.next {m:Sc}{N:Nat}(h:Good m N):(F_ m∧(dQ m.rows m.dh).2.left≤1000000000)∧Good (Pl.next m).1 N:=by
 rcases h with⟨why,h1,h2,rfl⟩|h
 ·refine⟨iF.BU (pend:=[]) (m:=ended why) M7 (by show 0≤20;omega),.inl ⟨why,h1,h2,?_⟩⟩;unfold Pl.next;have:dQ (ended why).rows (ended why).dh=(none,(ended why).rows):=by unfold dQ;rw[if_pos (.inl rfl)]
  rw[this]
 ·refine⟨h.core.rows.BU h.core.dh,?_⟩;have hr:=h.core.rows.next m.dh;unfold Pl.next;obtain⟨a,r',he⟩:∃a r',dQ m.rows m.dh=(a,r'):=⟨_,_,rfl⟩
  rw[he]at hr⊢;cases a with
  |none=>exact .inr h
  |some l=>
   simp only;by_cases h0:r'.left=0
   ·rw[if_pos h0];exact .inl ⟨1,by decide,by decide,rfl⟩
   ·rw[if_neg h0];exact .inr ⟨{h.core with rows:=hr.1},h.ticks⟩
theorem Good.cancel {m:Sc}{N:Nat}(h:Good m N):Good (Pl.cancel m) N∧m.state≤10:=by
 rcases h with⟨why,h1,h2,rfl⟩|h
 ·refine⟨.inl ⟨why,h1,h2,?_⟩,h2⟩;exact if_neg h1
 ·refine⟨.inl ⟨5,by decide,by decide,?_⟩,by rw[h.core.state];omega⟩;unfold Pl.cancel;rw[if_pos h.core.state]
theorem Core.swap {m:Sc}{x x':Part}{L:List Part}{N:Nat}(h:Core m (x::L) N)(ha:x'.gW=x.gW)(hx:RV m.size m.tries x'):Core m (x'::L) N:=by
 refine{h with parts:=fun y hy=>?_,opened:=?_,first:=fun⟨y,hy,e⟩=>?_,rows:=?_}
 ·rcases List.mem_cons.1 hy with rfl|hy
  ·exact hx
  ·exact h.parts y (List.mem_cons_of_mem _ hy)
 ·rw[h.opened,List.filter_cons,List.filter_cons,ha];split<;>rfl
 ·have:=h.first (by
   rcases List.mem_cons.1 hy with rfl|hy
   ·exact⟨x,aj,by rw[←ha];exact e⟩
   ·exact⟨y,List.mem_cons_of_mem _ hy,e⟩)
  exact this
 ·have:=h.rows;unfold pend at this⊢;rw[List.flatMap_cons]at this⊢;rw[ha];exact this
theorem ve {α:Type}:∀(l:List α)(i:Nat)(h:i<l.length),(l[i]::l.eraseIdx i).Perm l
 |[],_,h=>by simp at h
 |_::_,0,_=>.refl _
 |a::l,i+1,h=>(List.Perm.swap a _ _).trans ((ve l i (by simpa using h)).cons a)
theorem U1 (m:Sc)(i:Nat)(hi:i<m.asked.length):(partsOf m).Perm (Pl.partAt m i::partsOf (dF m i)):=by
 have h1:Pl.partAt m i=(m.asked[i]).2:=by unfold Pl.partAt;rw[aC,ay hi];rfl
 unfold partsOf;rw[h1];show(m.asked.map (·.2)++m.waiting.map (·.2)).Perm ((m.asked[i]).2::((m.asked.eraseIdx i).map (·.2)++m.waiting.map (·.2)));exact((ve m.asked i hi).map (fun q:Nat×Part=>q.2)).symm.append_right (m.waiting.map (·.2))
theorem pJ {l:List (Nat×Part)}{id:Int}{i:Nat}(h:gM l id=some i):i<l.length:=by
 unfold gM at h;rw[List.findIdx?_eq_some_iff_getElem]at h;exact h.1
theorem Going.taken {m:Sc}{N:Nat}(h:Going m N)(i:Nat)(hi:i<m.asked.length):Core (dF m i) (Pl.partAt m i::partsOf (dF m i)) N∧RV m.size m.tries (Pl.partAt m i):=by
 have h1:=h.core.perm (U1 m i hi);exact⟨⟨h1.state,h1.size,h1.want,h1.gap,h1.win,h1.pI,h1.tries,h1.dh,h1.parts,h1.ahead,h1.qF,h1.opened,h1.uF,h1.first,h1.rows,h1.bW⟩,h1.parts _ aj⟩
theorem Going.waits {m:Sc}{N:Nat}(h:Going m N):m.waiting.length≤4∧m.asked.length≤4:=by
 have:=h.core.few;unfold partsOf at this;simp at this;omega
theorem Going.failed {m:Sc}{N:Nat}(h:Going m N)(i:Nat)(hi:i<m.asked.length):wH m (Pl.partAt m i)∧Good (kT (dF m i) (Pl.partAt m i)) N:=by
 obtain⟨h1,h2⟩:=h.taken i hi;have ht:=h.core.tries;have hf:=h2.fails;have hw:=h.waits;refine⟨⟨h.core.state,af,hf,af,af⟩,?_⟩;unfold kT;by_cases he:(Pl.partAt m i).failures+1=(dF m i).tries
 ·rw[if_pos he];exact .inl ⟨4,by decide,by decide,rfl⟩
 ·rw[if_neg he];have he':(Pl.partAt m i).failures+1≠m.tries:=he;have h3:=h1.swap (x':={Pl.partAt m i with failures:=(Pl.partAt m i).failures+1}) rfl ⟨h2.ends,h2.data,by show(Pl.partAt m i).failures+1+1≤m.tries;omega,h2.footer,h2.piece⟩;have hp:({Pl.partAt m i with failures:=(Pl.partAt m i).failures+1}::partsOf (dF m i)).Perm (partsOf {dF m i with waiting:=(dF m i).waiting++[(2^(Pl.partAt m i).failures,{Pl.partAt m i with failures:=(Pl.partAt m i).failures+1})]}):=by
   unfold partsOf;simp only[a_,List.map_cons,List.map_nil];rw[←aW];exact(List.perm_append_comm (l₁:=[_]))
  have h4:=h3.perm hp;refine .inr ⟨⟨h4.state,h4.size,h4.want,h4.gap,h4.win,h4.pI,h4.tries,h4.dh,h4.parts,h4.ahead,h4.qF,h4.opened,h4.uF,h4.first,h4.rows,h4.bW⟩,fun q hq=>?_⟩;rcases aI.1 hq with hq|hq
  ·exact h.ticks q hq
  ·simp at hq;subst hq;have:(Pl.partAt m i).failures≤3:=af;generalize(Pl.partAt m i).failures=k at this;have:k=0∨k=1∨k=2∨k=3:=af;rcases this with rfl|rfl|rfl|rfl<;>simp
theorem Good.fail {m:Sc}{N:Nat}(h:Good m N)(id:Int):(∀i,gM m.asked id=some i→wH m (Pl.partAt m i))∧Good (Pl.fail m id).1 N∧m.asked.length≤1000:=by
 rcases h with⟨why,h1,h2,rfl⟩|h
 ·refine⟨fun i hi=>by have:=pJ hi;exact absurd this (by show¬i<0;omega),.inl ⟨why,h1,h2,?_⟩,by show 0≤1000;omega⟩;rfl
 ·refine⟨fun i hi=>(h.failed i (pJ hi)).1,?_,by have:=h.waits;omega⟩;unfold Pl.fail;cases hf:gM m.asked id with
  |none=>exact .inr h
  |some i=>exact(h.failed i (pJ hf)).2
theorem JH (l:List (Nat×Part)):∀(m:Sc)(s:List (Nat×Part)),∃al id,(l.foldl eO (m,s)).1={m with asked:=al,bW:=id}∧id≤m.bW+l.length∧(m.asked.map (·.2)++s.map (·.2)++l.map (·.2)).Perm (al.map (·.2)++(l.foldl eO (m,s)).2.map (·.2))∧((∀q∈s,1≤q.1∧q.1≤16)→(∀q∈l,1≤q.1∧q.1≤16)→∀q∈(l.foldl eO (m,s)).2,1≤q.1∧q.1≤16):=by
 induction l with
 |nil=>intro m s;exact⟨m.asked,m.bW,rfl,aj,aj,fun h _=>h⟩
 |cons q l ih=>
  intro m s;rw[List.foldl_cons];by_cases h:1<q.1
  ·have e:eO (m,s) q=(m,s++[(q.1-1,q.2)]):=by unfold eO;rw[if_pos h]
   rw[e];obtain⟨al,id,h1,h2,h3,h4⟩:=ih m (s++[(q.1-1,q.2)]);refine⟨al,id,h1,by simp only[aR];omega,?_,fun hs hl=>h4 (fun y hy=>?_) (fun y hy=>hl y (by simp[hy]))⟩
   ·refine List.Perm.trans (.of_eq ?_) h3;simp
   ·rcases aI.1 hy with hy|hy
    ·exact hs y hy
    ·simp at hy;subst hy;have:=hl q aj;simp only;omega
  ·have e:eO (m,s) q=(Pl.ask m q.2,s):=by unfold eO;rw[if_neg h]
   rw[e];obtain⟨al,id,h1,h2,h3,h4⟩:=ih (Pl.ask m q.2) s;refine⟨al,id,h1,?_,?_,fun hs hl=>h4 hs (fun y hy=>hl y (by simp[hy]))⟩
   ·have:id≤m.bW+1+l.length:=h2;simp only[aR];omega
   ·refine List.Perm.trans ?_ h3;show(m.asked.map (·.2)++s.map (·.2)++(q::l).map (·.2)).Perm ((m.asked++[(m.bW+1,q.2)]).map (·.2)++s.map (·.2)++l.map (·.2));simp only[List.map_cons,a_,List.map_nil,aW];refine List.Perm.append_left _ ?_;rw[←List.singleton_append,←aW];exact(List.perm_append_comm.append_right _).trans (.of_eq aj)
theorem Good.tick {m:Sc}{N:Nat}(h:Good m N)(hN:N≤100000000000):Mt m∧Good (Pl.tick m) (N+4):=by
 rcases h with⟨why,h1,h2,rfl⟩|h
 ·exact⟨⟨by show 0+0≤_;omega,by show 0+0≤_;omega,(fun q hq=>by cases hq),(fun q hq=>by cases hq)⟩,.inl ⟨why,h1,h2,rfl⟩⟩
 ·have hw:=h.waits;have hl:=h.core.bW;refine⟨⟨af,af,fun q hq=>by have:=h.ticks q hq;omega,fun q hq=>?_⟩,?_⟩
  ·have:=h.core.parts q.2 (by unfold partsOf;exact aI.2 (.inr (List.mem_map.2 ⟨q,hq,rfl⟩)));have h1:=this.ends;have h2:=this.data;omega
  ·obtain⟨al,id,e1,e2,e3,e4⟩:=JH m.waiting m [];unfold Pl.tick;simp only;rw[e1];have hp:(partsOf m).Perm (partsOf {m with asked:=al,bW:=id,waiting:=(m.waiting.foldl eO (m,[])).2}):=by
    unfold partsOf;refine List.Perm.trans (.of_eq ?_) e3;simp
   have h4:=h.core.perm hp;exact .inr ⟨⟨h4.state,h4.size,h4.want,h4.gap,h4.win,h4.pI,h4.tries,h4.dh,h4.parts,h4.ahead,h4.qF,h4.opened,h4.uF,h4.first,h4.rows,by show id≤N+4;omega⟩,e4 (fun q hq=>by cases hq) h.ticks⟩
end
section
open Pl
theorem RX (gap:Nat)(L:List Piece)(x:cK):(jS gap L x).flatMap (·.pages)=L.flatMap (·.pages)++[x]:=by
 unfold jS;cases hl:L.getLast? with
 |none=>
  have:L=[]:=List.getLast?_eq_none_iff.1 hl;subst this;simp
 |some p=>
  obtain⟨L',rfl⟩:∃L',L=L'++[p]:=by
   obtain⟨ys,e⟩:=List.getLast?_eq_some_iff.1 hl;exact⟨ys,e⟩
  simp only;split
  ·simp
  ·simp
theorem Gq (gap:Nat)(l:List cK):(jc gap l).flatMap (·.pages)=l:=by
 have:∀(l:List cK)(L:List Piece),(l.foldl (jS gap) L).flatMap (·.pages)=L.flatMap (·.pages)++l:=by
  intro l;induction l with
  |nil=>intro L;simp
  |cons x l ih=>intro L;rw[List.foldl_cons,ih,RX];simp
 unfold jc;rw[this];simp
theorem U2 (l:List cK)(x:cK):(nA l x).Perm (x::l):=by
 unfold nA;have h:=List.takeWhile_append_dropWhile (p:=fun y:cK=>decide (x.page.place<y.page.place)) (l:=l.reverse);have h2:=congrArg List.reverse h;rw[List.reverse_append,List.reverse_reverse]at h2;rw[aW,List.singleton_append];refine List.perm_middle.trans ?_;rw[h2]
theorem RY (l:List cK):(iD l).Perm l:=by
 have:∀(l A:List cK),(l.foldl nA A).Perm (A++l):=by
  intro l;induction l with
  |nil=>intro A;simp
  |cons x l ih=>
   intro A;rw[List.foldl_cons];refine(ih _).trans ?_;refine((U2 A x).append_right l).trans ?_;exact List.perm_middle.symm
 have:=this l [];simpa[iD]using this
def lu (bD:List Nat)(gs:List eu):Nat→List cK
 |0=>[]
 |k+1=>lu bD gs k++dP k (gs.getD k default) bD
theorem vg (gap:Nat)(bD:List Nat)(gs:List eu):∀k,((fU gap bD gs k).flatMap (·.pages)).Perm (lu bD gs k)
 |0=>by simp[fU,lu]
 |k+1=>by
  unfold fU lu;rw[List.flatMap_append];refine(vg gap bD gs k).append ?_;unfold tu;rw[Gq];exact RY _
theorem sF (gap:Nat)(bD:List Nat)(gs:List eu):∀k,(fU gap bD gs k).length≤k*bD.length∧∀p∈fU gap bD gs k,p.pages.length≤bD.length
 |0=>by simp[fU]
 |k+1=>by
  obtain⟨h1,h2⟩:=sF gap bD gs k;unfold fU;have h3:(tu gap bD k (gs.getD k default)).length≤bD.length:=by
   have:=BN gap (iD (dP k (gs.getD k default) bD));rw[uS,lQ]at this;exact this
  refine⟨by rw[aD,Nat.add_mul];omega,fun p hp=>?_⟩;rcases aI.1 hp with hp|hp
  ·exact h2 p hp
  ·have hf:(tu gap bD k (gs.getD k default)).flatMap (·.pages)=iD (dP k (gs.getD k default) bD):=Gq _ _;have hs:(p.pages).length≤((tu gap bD k (gs.getD k default)).flatMap (·.pages)).length:=by
    obtain⟨A,B,e⟩:=List.append_of_mem hp;rw[e];simp;omega
   rw[hf,uS,lQ]at hs;exact hs
theorem sG (bD:List Nat)(gs:List eu):∀k x,x∈lu bD gs k→x.group<k∧x.column<bD.length∧x.rows=(gs.getD x.group default).rows
 |0,x,h=>by simp[lu]at h
 |k+1,x,h=>by
  unfold lu at h;rcases aI.1 h with h|h
  ·have:=sG bD gs k x h;exact⟨af,this.2⟩
  ·unfold dP at h;obtain⟨i,hi,rfl⟩:=List.mem_map.1 h;exact⟨Nat.lt_succ_self k,List.mem_range.1 hi,rfl⟩
theorem KD (A B:List cK)(g:Nat):jY (A++B) g=jY A g++jY B g:=List.filter_append ..
theorem Gr {A:List cK}{g:Nat}(h:∀x∈A,x.group≠g):jY A g=[]:=List.filter_eq_nil_iff.2 (fun x hx=>by simpa using h x hx)
theorem RZ (k:Nat)(gr:eu)(bD:List Nat):(jY (dP k gr bD) k).length=bD.length:=by
 have:jY (dP k gr bD) k=dP k gr bD:=List.filter_eq_self.2 (fun x hx=>by
  unfold dP at hx;obtain⟨i,hi,rfl⟩:=List.mem_map.1 hx;simp)
 rw[this,lQ]
theorem Cf (bD:List Nat)(gs:List eu):∀k i,i<k→(jY (lu bD gs k) i).length=bD.length∧∀c,c<bD.length→∃x∈lu bD gs k,x.group=i∧x.column=c
 |0,i,h=>af
 |k+1,i,h=>by
  unfold lu;rw[KD,aD];by_cases e:i=k
  ·subst e;rw[Gr (fun x hx=>by have:=(sG bD gs i x hx).1;omega),RZ];refine⟨aj,fun c hc=>⟨_,aI.2 (.inr (List.mem_map.2 ⟨c,List.mem_range.2 hc,rfl⟩)),rfl,rfl⟩⟩
  ·obtain⟨h1,h2⟩:=Cf bD gs k i af;rw[h1,Gr (A:=dP k (gs.getD k default) bD) (fun x hx=>by unfold dP at hx;obtain⟨j,hj,rfl⟩:=List.mem_map.1 hx;exact fun e'=>e e'.symm)];refine⟨aj,fun c hc=>?_⟩;obtain⟨x,hx,hxe⟩:=h2 c hc;exact⟨x,aI.2 (.inl hx),hxe⟩
theorem Gs (bD:List Nat)(gs:List eu):∀k,(lu bD gs k).length=k*bD.length
 |0=>by simp[lu]
 |k+1=>by unfold lu;rw[aD,Gs bD gs k,lQ,Nat.add_mul];simp
theorem X4 (nn foot:Nat)(bD:List Nat)(gs:List eu)(hg:∀g∈gs,vR nn foot g)(h6:gs.length≤6)(h4:bD.length≤4):iF (jL bD.length (gs.map (·.rows))) (lu bD gs gs.length):=by
 refine⟨by show 0+_≤6;simpa[jL]using h6,h4,fun i G hG=>?_,fun x hx=>?_,fun x hx=>?_,?_,.inl rfl,?_⟩
 ·have hG:((gs.map (·.rows)).map fun n=>(⟨n,List.replicate bD.length [],bD.length⟩:gF))[i]?=some G:=hG;rw[aN,aN]at hG;cases hi:gs[i]? with
  |none=>rw[hi]at hG;cases hG
  |some g=>
   rw[hi]at hG;simp at hG;subst hG;have hgo:=hg g (List.mem_of_getElem? hi);have hlt:i<gs.length:=(aL.1 hi).1;obtain⟨h1,h2⟩:=Cf bD gs gs.length i hlt;refine⟨hgo.KH,hgo.BM,by simp[jL],by rw[show(jL bD.length (gs.map (·.rows))).gone+i=i from Nat.zero_add i];exact h1.symm,fun c l hl=>.inr ?_⟩;have hc:c<bD.length:=by have:=(aL.1 hl).1;simpa using this
   obtain⟨x,hx,e1,e2⟩:=h2 c hc;exact⟨x,hx,by rw[show(jL bD.length (gs.map (·.rows))).gone+i=i from Nat.zero_add i];exact e1,e2⟩
 ·obtain⟨h1,h2,h3⟩:=sG bD gs _ x hx;exact⟨aM _,by show x.group<0+_;simpa[jL]using h1,h2⟩
 ·obtain⟨h1,h2,h3⟩:=sG bD gs _ x hx;show(((gs.map (·.rows)).map fun n=>(⟨n,List.replicate bD.length [],bD.length⟩:gF))[x.group-0]?).map (·.rows)=some x.rows;rw[Nat.sub_zero,aN,aN,ay h1,h3];simp[List.getD,ay h1]
 ·rw[Gs];have:gs.length*bD.length≤6*4:=Nat.mul_le_mul h6 h4;omega
 ·show(gs.map (·.rows)).sum+0=_;simp[jL,Function.comp_def]
end
end Go.Proofs.YthicgffppmbamaaGreat
