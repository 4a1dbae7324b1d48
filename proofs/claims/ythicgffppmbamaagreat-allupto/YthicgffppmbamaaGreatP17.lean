import Derived.Test.YthicgffppmbamaaGreatP10
import Derived.Test.YthicgffppmbamaaGreatP13
import Derived.Test.YthicgffppmbamaaGreatP14
import Derived.Test.YthicgffppmbamaaGreatP16
set_option maxRecDepth 100000
set_option maxHeartbeats 16000000
namespace Go.Proofs.YthicgffppmbamaaGreat
open Go.RowKit
def yV (x:Pl.RP):List Value:=[I x.place,I x.length,tx x.sum]
structure kN (w0 w:World)(k:Nat→Nat)(F Q:Nat)(jK j_ jZ:Value)(bJ:List Value)(names:List (List UInt8))(rows:List Nat)(pages:List (List Pl.RP))(c:Pl.iU):Prop where
 kF:k F=1
 kQ:k Q=2
 low:∀b,b<w0.heap.size→k b=0
 top:∀b,w.heap.size≤b→k b=0
 blk:bK w F [jK,j_,jZ] 179
 cur:vG w Q c
 Eb:Own w 1 jK names.length (names.map tx)
 nk:∀g,jK.ownBlock=some g→k g=3
 row:Own w 1 j_ rows.length (rows.map fun(n:Nat)=>I n)
 rk:∀g,j_.ownBlock=some g→k g=4
 Gi:Own w 1 jZ pages.length bJ
 pk:∀g,jZ.ownBlock=some g→k g=5
 iA:bJ.length=pages.length
 lists:∀(i:Nat)v l,bJ[i]?=some v→pages[i]?=some l→bM (fun b=>k b=6) false w 3 v l.length (l.flatMap yV)
 ext:Ext w0 w
section
variable{w0 w w':World}{k:Nat→Nat}{F Q:Nat}{jK j_ jZ:Value}{bJ:List Value}{names:List (List UInt8)}{rows:List Nat}{pages:List (List Pl.RP)}{c c':Pl.iU}
theorem kN.other {S:Nat→Prop}{k':Nat→Nat}(h:kN w0 w k F Q jK j_ jZ bJ names rows pages c)(kp:Kp S w w')(hS:∀i,S i→(k i=0∨k i=7)∧w0.heap.size≤i)(hk:∀b,k' b=k b∨((k b=0∨k b=7)∧(k' b=0∨k' b=7)))(hl:∀b,b<w0.heap.size→k' b=0)(ht:∀b,w'.heap.size≤b→k' b=0):kN w0 w' k' F Q jK j_ jZ bJ names rows pages c:=by
 have hno:∀c,c≠0→c≠7→∀i,k i=c→¬S i:=fun c h0 h7 i hi hs=>by rcases(hS i hs).1 with e|e<;>omega
 have hk1:∀c,c≠0→c≠7→∀b,k b=c→k' b=c:=fun c h0 h7 b hb=>by rcases hk b with e|⟨e,-⟩<;>omega
 refine⟨hk1 1 af af F h.kF,hk1 2 af af Q h.kQ,hl,ht,h.blk.kept kp (hno 1 af af F h.kF),h.cur.kept kp (hno 2 af af Q h.kQ),h.Eb.kept kp (fun g hg=>hno 3 af af g (h.nk g hg)),fun g hg=>hk1 3 af af g (h.nk g hg),h.row.kept kp (fun g hg=>hno 4 af af g (h.rk g hg)),fun g hg=>hk1 4 af af g (h.rk g hg),h.Gi.kept kp (fun g hg=>hno 5 af af g (h.pk g hg)),fun g hg=>hk1 5 af af g (h.pk g hg),h.iA,fun i v l a b=>(h.lists i v l a b).go kp (fun i hi=>hno 6 af af i hi) (fun i _ hi=>hk1 6 af af i hi),h.ext.then kp (fun i hi e=>by have:=(hS i e).2;omega)⟩
theorem kN.more (h:kN w0 w k F Q jK j_ jZ bJ names rows pages c)(x:Ext w w'):kN w0 w' k F Q jK j_ jZ bJ names rows pages c:=
 h.other x (fun _ f=>f.elim) (fun _=>.inl rfl) h.low (fun b hb=>h.top b (aO x.size hb))
theorem kN.geF (h:kN w0 w k F Q jK j_ jZ bJ names rows pages c):w0.heap.size≤F∧w0.heap.size≤Q:=by
 refine⟨Classical.byContradiction fun e=>?_,Classical.byContradiction fun e=>?_⟩
 ·have:=h.low F af;rw[h.kF]at this;cases this
 ·have:=h.low Q af;rw[h.kQ]at this;cases this
theorem kN.yX (h:kN w0 w k F Q jK j_ jZ bJ names rows pages c)(kp:Kp (fun b=>b=Q) w w')(hc:vG w' Q c'):kN w0 w' k F Q jK j_ jZ bJ names rows pages c':=by
 have hno:∀c,c≠2→∀i,k i=c→¬i=Q:=fun c h2 i hi e=>by rw[e,h.kQ]at hi;omega
 exact⟨h.kF,h.kQ,h.low,fun b hb=>h.top b (aO kp.size hb),h.blk.kept kp (hno 1 af F h.kF),hc,h.Eb.kept kp (fun g hg=>hno 3 af g (h.nk g hg)),h.nk,h.row.kept kp (fun g hg=>hno 4 af g (h.rk g hg)),h.rk,h.Gi.kept kp (fun g hg=>hno 5 af g (h.pk g hg)),h.pk,h.iA,fun i v l a b=>(h.lists i v l a b).go kp (fun i hi=>hno 6 af i hi) (fun i _ hi=>hi),h.ext.then kp (fun i hi e=>by have:=h.geF.2;rw[e]at hi;omega)⟩
def jH (k:Nat→Nat)(v:Value)(c:Nat):Nat→Nat:=fun b=>if v.ownBlock=some b then c else k b
theorem Cb {v:Value}{g cc:Nat}(h:v.ownBlock=some g):jH k v cc g=cc:=by unfold jH;rw[if_pos h]
theorem UH {v v':Value}{cc:Nat}(hs:Sep w v v')(hk:∀g,v.ownBlock=some g→k g=cc)(ht:∀b,w.heap.size≤b→k b=0):∀b d,k b=d→d≠0→jH k v' cc b=d:=fun b d hb hd=>by
 unfold jH;by_cases e:v'.ownBlock=some b
 ·rw[if_pos e];rcases eT hs e with e'|e'
  ·rw[←hb];exact(hk b e').symm
  ·have:=ht b e';omega
 ·rw[if_neg e];exact hb
theorem UI {v v':Value}(hs:Sep w v v')(hv:∀g,v.ownBlock=some g→w0.heap.size≤g)(hw:w0.heap.size≤w.heap.size):∀g,v'.ownBlock=some g→w0.heap.size≤g:=fun g hg=>by
 rcases eT hs hg with e|e
 ·exact hv g e
 ·omega
theorem kN.ge (h:kN w0 w k F Q jK j_ jZ bJ names rows pages c){g d:Nat}(hg:k g=d)(hd:d≠0):w0.heap.size≤g:=Classical.byContradiction fun e=>by have:=h.low g af;omega
theorem kN.laid (h:kN w0 w k F Q jK j_ jZ bJ names rows pages c){v v':Value}{cc:Nat}{w3:World}(hcc:cc≠0∧cc≠1∧cc≠2)(hk:∀g,v.ownBlock=some g→k g=cc)(kp:Kp (Of v) w w3)(hs:Sep w v v')(hlt:∀g,v'.ownBlock=some g→g<w3.heap.size)(j:Nat):
 let k':=jH k v' cc
 (∀b d,k b=d→d≠0→k' b=d)∧(∀g,v'.ownBlock=some g→k' g=cc)∧Kp (fun b=>b=F∨k b=cc) w (w3.setCell ⟨F,j,none⟩ v')∧(∀b,b<w0.heap.size→k' b=0)∧(∀b,(w3.setCell ⟨F,j,none⟩ v').heap.size≤b→k' b=0)∧Ext w0 (w3.setCell ⟨F,j,none⟩ v'):=by
 have hge:∀g,v'.ownBlock=some g→w0.heap.size≤g:=UI hs (fun g hg=>h.ge (hk g hg) hcc.1) h.ext.size;have hkp:Kp (fun b=>b=F∨k b=cc) w (w3.setCell ⟨F,j,none⟩ v'):=(kp.mono (fun i _ e=>.inr (hk i e))).trans ((bI w3 F j v').mono (fun i _ e=>.inl e));have hz:(w3.setCell ⟨F,j,none⟩ v').heap.size=w3.heap.size:=size_set _ _ _;refine⟨UH hs hk h.top,fun g hg=>Cb hg,hkp,fun b hb=>?_,fun b hb=>?_,h.ext.then hkp (fun i hi e=>?_)⟩
 ·unfold jH;rw[if_neg (fun e=>by have:=hge b e;omega)];exact h.low b hb
 ·rw[hz]at hb;unfold jH;rw[if_neg (fun e=>by have:=hlt b e;omega)];exact h.top b (aO kp.size hb)
 ·rcases e with e|e
  ·have:=h.geF.1;rw[e]at hi;omega
  ·have:=h.ge e hcc.1;omega
theorem kN.RL (h:kN w0 w k F Q jK j_ jZ bJ names rows pages c){v':Value}{w3:World}{x:List UInt8}(kp:Kp (Of jK) w w3)(hs:Sep w jK v')(ho:Own w3 1 v' (names.length+1) (names.map tx++[tx x])):kN w0 (w3.setCell ⟨F,0,none⟩ v') (jH k v' 3) F Q v' j_ jZ bJ (names++[x]) rows pages c:=by
 obtain⟨h1,h2,h3,h4,h5,h6⟩:=h.laid (cc:=3) af h.nk kp hs (fun g hg=>ho.lt hg) 0;have hno:∀d,d≠1→d≠3→∀i,k i=d→¬(i=F∨k i=3):=fun d a b i hi e=>by
  rcases e with e|e
  ·rw[e,h.kF]at hi;omega
  ·omega
 have hb:bK (w3.setCell ⟨F,0,none⟩ v') F [v',j_,jZ] 179:=(h.blk.kept kp (fun e=>by have:=h.nk F e;rw[h.kF]at this;omega)).set 0 v';have hF:¬v'.ownBlock=some F:=fun e=>by have:=h2 F e;rw[h1 F 1 h.kF af]at this;omega
 refine⟨h1 F 1 h.kF af,h1 Q 2 h.kQ af,h4,h5,hb,h.cur.kept h3 (hno 2 af af Q h.kQ),?_,h2,h.row.kept h3 (fun g hg=>hno 4 af af g (h.rk g hg)),fun g hg=>h1 g 4 (h.rk g hg) af,h.Gi.kept h3 (fun g hg=>hno 5 af af g (h.pk g hg)),fun g hg=>h1 g 5 (h.pk g hg) af,h.iA,fun i v l a b=>(h.lists i v l a b).go h3 (fun i hi=>hno 6 af af i hi) (fun i _ hi=>h1 i 6 hi af),h6⟩;have:=ho.kept (bI w3 F 0 v') (fun g hg e=>hF (by rw[←e];exact hg));rw[aD,a_];exact this
theorem kN.ai6 (h:kN w0 w k F Q jK j_ jZ bJ names rows pages c){v':Value}{w3:World}{x:Nat}(kp:Kp (Of j_) w w3)(hs:Sep w j_ v')(ho:Own w3 1 v' (rows.length+1) (rows.map (fun(n:Nat)=>I n)++[I x])):kN w0 (w3.setCell ⟨F,1,none⟩ v') (jH k v' 4) F Q jK v' jZ bJ names (rows++[x]) pages c:=by
 obtain⟨h1,h2,h3,h4,h5,h6⟩:=h.laid (cc:=4) af h.rk kp hs (fun g hg=>ho.lt hg) 1;have hno:∀d,d≠1→d≠4→∀i,k i=d→¬(i=F∨k i=4):=fun d a b i hi e=>by
  rcases e with e|e
  ·rw[e,h.kF]at hi;omega
  ·omega
 have hb:bK (w3.setCell ⟨F,1,none⟩ v') F [jK,v',jZ] 179:=(h.blk.kept kp (fun e=>by have:=h.rk F e;rw[h.kF]at this;omega)).set 1 v';have hF:¬v'.ownBlock=some F:=fun e=>by have:=h2 F e;rw[h1 F 1 h.kF af]at this;omega
 refine⟨h1 F 1 h.kF af,h1 Q 2 h.kQ af,h4,h5,hb,h.cur.kept h3 (hno 2 af af Q h.kQ),h.Eb.kept h3 (fun g hg=>hno 3 af af g (h.nk g hg)),fun g hg=>h1 g 3 (h.nk g hg) af,?_,h2,h.Gi.kept h3 (fun g hg=>hno 5 af af g (h.pk g hg)),fun g hg=>h1 g 5 (h.pk g hg) af,h.iA,fun i v l a b=>(h.lists i v l a b).go h3 (fun i hi=>hno 6 af af i hi) (fun i _ hi=>h1 i 6 hi af),h6⟩;have:=ho.kept (bI w3 F 1 v') (fun g hg e=>hF (by rw[←e];exact hg));rw[aD,a_];exact this
theorem kN.ai7 (h:kN w0 w k F Q jK j_ jZ bJ names rows pages c){v' lv:Value}{w3:World}{l:List Pl.RP}(kp:Kp (Of jZ) w w3)(hs:Sep w jZ v')(ho:Own w3 1 v' (pages.length+1) (bJ++[lv]))(hl:bM (fun b=>k b=7) false w 3 lv l.length (l.flatMap yV)):kN w0 (w3.setCell ⟨F,2,none⟩ v') (fun b=>if jH k v' 5 b=7 then 6 else jH k v' 5 b) F Q jK j_ v' (bJ++[lv]) names rows (pages++[l]) c:=by
 obtain⟨h1,h2,h3,h4,h5,h6⟩:=h.laid (cc:=5) af h.pk kp hs (fun g hg=>ho.lt hg) 2;have hno:∀d,d≠1→d≠5→∀i,k i=d→¬(i=F∨k i=5):=fun d a b i hi e=>by
  rcases e with e|e
  ·rw[e,h.kF]at hi;omega
  ·omega
 have hb:bK (w3.setCell ⟨F,2,none⟩ v') F [jK,j_,v'] 179:=(h.blk.kept kp (fun e=>by have:=h.pk F e;rw[h.kF]at this;omega)).set 2 v';have hF:¬v'.ownBlock=some F:=fun e=>by have:=h2 F e;rw[h1 F 1 h.kF af]at this;omega
 have g1:∀b d,jH k v' 5 b=d→d≠7→(if jH k v' 5 b=7 then 6 else jH k v' 5 b)=d:=fun b d e hd=>by rw[e,if_neg hd]
 refine⟨g1 F 1 (h1 F 1 h.kF af) af,g1 Q 2 (h1 Q 2 h.kQ af) af,fun b hb=>g1 b 0 (h4 b hb) af,fun b hb=>g1 b 0 (h5 b hb) af,hb,h.cur.kept h3 (hno 2 af af Q h.kQ),h.Eb.kept h3 (fun g hg=>hno 3 af af g (h.nk g hg)),fun g hg=>g1 g 3 (h1 g 3 (h.nk g hg) af) af,h.row.kept h3 (fun g hg=>hno 4 af af g (h.rk g hg)),fun g hg=>g1 g 4 (h1 g 4 (h.rk g hg) af) af,?_,fun g hg=>g1 g 5 (h2 g hg) af,by simp[h.iA],fun i v q a b=>?_,h6⟩
 ·have:=ho.kept (bI w3 F 2 v') (fun g hg e=>hF (by rw[←e];exact hg));rw[aD];exact this
 ·by_cases hi:i<bJ.length
  ·rw[aS hi]at a;rw[aS (by rw[←h.iA];exact hi)]at b;exact(h.lists i v q a b).go h3 (fun i hi=>hno 6 af af i hi) (fun i _ hi=>g1 i 6 (h1 i 6 hi af) af)
  ·rw[aP af]at a;rw[aP (by rw[←h.iA];omega)]at b;have hz:i-bJ.length=0:=by
    cases hq:i-bJ.length with
    |zero=>rfl
    |succ n=>rw[hq]at a;simp at a
   rw[←h.iA,hz]at b;rw[hz]at a;simp at a b;subst a;subst b;exact hl.go h3 (fun i hi=>hno 7 af af i hi) (fun i _ hi=>by rw[h1 i 7 hi af,if_pos rfl])
end
theorem tT (lo hi:Nat)(c:Pl.iU):(Pl.dB lo hi c).2.1.length≤c.1.length:=by
 unfold Pl.dB;split
 ·exact aK _
 ·simp only[bq];omega
theorem Gj (n:Nat)(c:Pl.iU):(Pl.gJ n c).2.1.length≤c.1.length:=by
 unfold Pl.gJ;split
 ·exact aK _
 ·simp only[bq];omega
theorem Ip (lo hi:Nat)(h:lo≤hi)(c:Pl.iU):lo≤(Pl.dB lo hi c).1∧(Pl.dB lo hi c).1≤hi:=by
 unfold Pl.dB;split
 ·exact⟨aK _,h⟩
 ·rename_i hn;have:Pl.jX lo hi c.1:=Classical.byContradiction fun e=>hn (.inr e)
  exact⟨this.2.1,this.2.2⟩
def dY (s:List UInt8)(j:Nat):List (List UInt8)×Pl.iU:=Pl.iter (Pl.gd (fun s=>s.2.2) Pl.ow) j ([],(Pl.dB 1 4 (s,false)).2)
theorem UJ {s:List UInt8}{j:Nat}(h:(dY s j).2.2=false):dY s (j+1)=Pl.ow (dY s j):=Pl.zk (bad:=fun s:List (List UInt8)×Pl.iU=>s.2.2) h
theorem XR {s:List UInt8}{j:Nat}(hj:j≤(Pl.dB 1 4 (s,false)).1)(h:(dY s j).2.2=true∨j=(Pl.dB 1 4 (s,false)).1):Pl.iL s=dY s j:=by
 rcases h with h|h
 ·exact Pl.tL (fun s:List (List UInt8)×Pl.iU=>s.2.2) Pl.ow j _ h _ hj
 ·rw[h];rfl
theorem acV (w:World)(s:List UInt8):kN w (((w.alloc (.cells #[.slice none 0 0,.slice none 0 0,.slice none 0 0] 179)).alloc (.cells #[.slice none 0 0,.slice none 0 0,.slice none 0 0] 179)).alloc (.cells #[tx s,.bool false] 204)) (fun b=>if b=w.heap.size+1 then 1 else if b=w.heap.size+1+1 then 2 else 0) (w.heap.size+1) (w.heap.size+1+1) (.slice none 0 0) (.slice none 0 0) (.slice none 0 0) [] [] [] [] (s,false):=by
 have e1:(w.alloc (.cells #[.slice none 0 0,.slice none 0 0,.slice none 0 0] 179)).heap.size=w.heap.size+1:=aj;have e2:((w.alloc (.cells #[.slice none 0 0,.slice none 0 0,.slice none 0 0] 179)).alloc (.cells #[.slice none 0 0,.slice none 0 0,.slice none 0 0] 179)).heap.size=w.heap.size+1+1:=aj;have b1:=bK.bO (w.alloc (.cells #[.slice none 0 0,.slice none 0 0,.slice none 0 0] 179)) [.slice none 0 0,.slice none 0 0,.slice none 0 0] 179;have b2:=bK.bO ((w.alloc (.cells #[.slice none 0 0,.slice none 0 0,.slice none 0 0] 179)).alloc (.cells #[.slice none 0 0,.slice none 0 0,.slice none 0 0] 179)) [tx s,.bool false] 204;rw[e1]at b1;rw[e2]at b2;refine⟨aj,aj,fun b hb=>by rw[if_neg af,if_neg af],fun b hb=>?_,b1.kept ((Kp.refl (fun _=>False) _).alloc _) id,b2,Own.nil _ _,fun g e=>by simp[Value.ownBlock]at e,Own.nil _ _,fun g e=>by simp[Value.ownBlock]at e,Own.nil _ _,fun g e=>by simp[Value.ownBlock]at e,rfl,fun i v l a=>by simp at a,((ax.alloc _).alloc _).alloc _⟩;simp at hb;rw[if_neg af,if_neg af]
theorem kN.grown {w0 w w3:World}{k:Nat→Nat}{F Q:Nat}{jK j_ jZ lv Zh:Value}{bJ:List Value}{names:List (List UInt8)}{rows:List Nat}{pages:List (List Pl.RP)}{c:Pl.iU}(h:kN w0 w k F Q jK j_ jZ bJ names rows pages c)(hk:∀g,lv.ownBlock=some g→k g=7)(kp:Kp (Of lv) w w3)(hs:Sep w lv Zh)(hlt:∀g,Zh.ownBlock=some g→g<w3.heap.size):kN w0 w3 (jH k Zh 7) F Q jK j_ jZ bJ names rows pages c:=by
 refine h.other kp (fun i hi=>⟨.inr (hk i hi),h.ge (hk i hi) af⟩) (fun b=>?_) (fun b hb=>?_) (fun b hb=>?_)
 ·unfold jH;by_cases e:Zh.ownBlock=some b
  ·rw[if_pos e];right;refine⟨?_,.inr rfl⟩;rcases eT hs e with e'|e'
   ·exact .inr (hk b e')
   ·exact .inl (h.top b e')
  ·rw[if_neg e];exact .inl rfl
 ·unfold jH;rw[if_neg (fun e=>by
   have:=UI hs (fun g hg=>h.ge (hk g hg) af) h.ext.size b e;omega)]
  exact h.low b hb
 ·unfold jH;rw[if_neg (fun e=>by have:=hlt b e;omega)];exact h.top b (aO kp.size hb)
theorem kN.aside {w0 w w':World}{k:Nat→Nat}{F Q:Nat}{jK j_ jZ:Value}{bJ:List Value}{names:List (List UInt8)}{rows:List Nat}{pages:List (List Pl.RP)}{c:Pl.iU}(h:kN w0 w k F Q jK j_ jZ bJ names rows pages c)(b:Nat)(hb:k b=0)(hg:w0.heap.size≤b)(kp:Kp (fun i=>i=b) w w'):kN w0 w' k F Q jK j_ jZ bJ names rows pages c:=
 h.other kp (fun i hi=>by rw[hi];exact⟨.inl hb,hg⟩) (fun _=>.inl rfl) h.low (fun i hi=>h.top i (aO kp.size hi))
def zPg :Value:=.agg #[.int .i64 0,.int .i64 0,.string ⟨#[]⟩]
theorem UK :(Tryz.prog.info? 207).map (fun i=>(i.zero,i.size,i.bytes))=some (some zPg,3,32):=by kernel_rfl
theorem aav :(Tryz.prog.info? 205).map (fun i=>(i.zero,i.size,i.bytes))=some (some (.slice none 0 0),1,24):=by kernel_rfl
def dM (n foot:Nat)(c:Pl.iU)(j:Nat):(List Nat×List (List Pl.RP))×Pl.iU:=Pl.iter (Pl.gd (fun s=>s.2.2) (Pl.lZ n foot)) j (([],[]),c)
theorem UL {n foot:Nat}{c:Pl.iU}{j:Nat}(h:(dM n foot c j).2.2=false):dM n foot c (j+1)=Pl.lZ n foot (dM n foot c j):=Pl.zk (bad:=fun s:(List Nat×List (List Pl.RP))×Pl.iU=>s.2.2) h
theorem XT {n foot g:Nat}{c:Pl.iU}{j:Nat}(hj:j≤g)(h:(dM n foot c j).2.2=true∨j=g):dM n foot c g=dM n foot c j:=by
 rcases h with h|h
 ·exact Pl.tL (fun s:(List Nat×List (List Pl.RP))×Pl.iU=>s.2.2) (Pl.lZ n foot) j _ h _ hj
 ·rw[h]
def fI (foot:Nat)(c:Pl.iU)(j:Nat):List Pl.RP×Pl.iU:=Pl.rz foot j c
theorem UM {foot:Nat}{c:Pl.iU}{j:Nat}(h:(fI foot c j).2.2=false):fI foot c (j+1)=Pl.qC foot (fI foot c j):=Pl.zk (bad:=fun s:List Pl.RP×Pl.iU=>s.2.2) h
theorem XU {foot g:Nat}{c:Pl.iU}{j:Nat}(hj:j≤g)(h:(fI foot c j).2.2=true∨j=g):fI foot c g=fI foot c j:=by
 rcases h with h|h
 ·exact Pl.tL (fun s:List Pl.RP×Pl.iU=>s.2.2) (Pl.qC foot) j _ h _ hj
 ·rw[h]
inductive Gl (w w':World)(e:Ending)(s:List UInt8)(foot:Nat):Prop
 |mk (k:Nat→Nat) (F Q:Nat) (jK j_ jZ:Value) (bJ:List Value) (c:Pl.iU) (he:e=.returned (.tuple #[.agg #[jK,j_,jZ],.bool (Pl.zl s foot)])) (hf:kN w w' k F Q jK j_ jZ bJ (Pl.iL s).1 (Pl.dJ s foot).1.1 (Pl.dJ s foot).1.2 c):Gl w w' e s foot
theorem Cc (tm:Array Value)(w:World)(R:Nat)(x y z v5:Value)(h4:tm.getD 4 undef=.pointer (some ⟨R,0,none⟩))(h5:tm.getD 5 undef=v5)(hB:bK w R [x,y,z] 179):(results Tryz.f109 tm).run Tryz.prog w=.ok (.tuple #[.agg #[x,y,z],v5]) w:=by
 have c0:=hB.cell 0;have c1:=hB.cell 1;have c2:=hB.cell 2;simp only[au]at c0 c1 c2;rw[Array.getD_eq_getD_getElem?]at h4 h5;simp[results,Tryz.results109,go_sem,h4,h5,c0,c1,c2]
theorem UN (w:World)(s:List UInt8)(foot:Nat)(hs:s.length≤5000)(hf:foot≤4000):
 Calls Tryz.prog 109 #[tx s,.int .i64 foot] w fun e w'=>Gl w w' e s foot:=by
 go_enter Tryz.func109,Tryz.ntmps109
 go_upto_region 3 with fail
 have hF0:=acV w s;obtain⟨F,hFe⟩:∃F,F=w.heap.size+1:=⟨_,rfl⟩
 obtain⟨Q,hQe⟩:∃Q,Q=w.heap.size+1+1:=⟨_,rfl⟩
 rw[←hQe,←hFe]at hF0⊢;have hRb:bK (((w.alloc (.cells #[.slice none 0 0,.slice none 0 0,.slice none 0 0] 179)).alloc (.cells #[.slice none 0 0,.slice none 0 0,.slice none 0 0] 179)).alloc (.cells #[tx s,.bool false] 204)) w.heap.size [.slice none 0 0,.slice none 0 0,.slice none 0 0] 179:=(bK.bO w [.slice none 0 0,.slice none 0 0,.slice none 0 0] 179).kept (((Kp.refl (fun _=>False) _).alloc _).alloc _) id;generalize((w.alloc (.cells #[.slice none 0 0,.slice none 0 0,.slice none 0 0] 179)).alloc (.cells #[.slice none 0 0,.slice none 0 0,.slice none 0 0] 179)).alloc (.cells #[tx s,.bool false] 204)=W0 at*;have uT:w.heap.size≠F∧w.heap.size≠Q:=af;clear hFe hQe;have hkR:(fun b=>if b=F then 1 else if b=Q then 2 else 0) w.heap.size=0:=by simp only;rw[if_neg uT.1,if_neg uT.2]
 generalize(fun b=>if b=F then 1 else if b=Q then 2 else 0)=k0 at*;have HC:Hid (Calls Tryz.prog 131 #[.pointer (some ⟨Q,0,none⟩),.int .i64 1,.int .i64 4] W0 fun e w'=>e=.returned (.int .i64 ((Pl.dB 1 4 (s,false)).1:Nat))∧vG w' Q (Pl.dB 1 4 (s,false)).2∧Kp (fun k=>k=Q) W0 w'∧w'.heap.size=W0.heap.size):=tN W0 Q (s,false) 1 4 hF0.cur (by show s.length≤_;omega);have hcl:=tT 1 4 (s,false);have hci:=Ip 1 4 af (s,false);have hcl':(Pl.dB 1 4 (s,false)).2.1.length≤5000:=aO hcl hs;clear hcl
 go_wp2_with fail
 refine(bH HC).mono ?_;rintro e W1 ⟨rfl,hc1,kc1,-⟩;have hF1:=hF0.yX kc1 hc1;have AJ:=hRb.kept kc1 (fun e=>uT.2 e);clear HC hc1 hRb;obtain⟨n,hn⟩:∃n,n=(Pl.dB 1 4 (s,false)).1:=⟨_,rfl⟩
 rw[←hn]at hci⊢;have HN:=hide hn;clear hn
 go_wp2_with fail
 go_loopw [9] (fun i wr=>∃(j:Nat)(k:Nat→Nat)(jK:Value),i=.int .i64 j∧j≤n∧kN w wr k F Q jK (.slice none 0 0) (.slice none 0 0) [] (dY s j).1 [] [] (dY s j).2∧bK wr w.heap.size [.slice none 0 0,.slice none 0 0,.slice none 0 0] 179∧k w.heap.size=0∧(dY s j).2.1.length≤5000∧(dY s j).1.length≤j) (fun i _=>10-(intOf i).toNat)
 case atStart=>exact⟨0,k0,_,rfl,af,hF1,AJ,hkR,hcl',by show 0≤0;omega⟩
 case round=>
  obtain⟨j,k,jK,rfl,hj,MZ,hRj,hkj,hlj,D9⟩:=hrel;have q1:=MZ.cur.cell 1;simp only[nV,au]at q1;by_cases hgo:j<n∧(dY s j).2.2=false
  ·obtain⟨hjn,hbad⟩:=hgo;rw[hbad]at q1;have j1:(j:Int)<(n:Int):=af;have dj1:decide ((j:Int)<(n:Int))=true:=aH j1;have Gm:=hide (tN wr Q (dY s j).2 1 8 MZ.cur af);have hl1:=tT 1 8 (dY s j).2;have UO:=hide (UJ hbad)
   go_wp2_with fail
   refine(bH Gm).mono ?_;rintro e W2 ⟨rfl,hc2,kc2,-⟩;have hF2:=MZ.yX kc2 hc2;have HCB:=hide (FH W2 Q (Pl.dB 1 8 (dY s j).2).2 (Pl.dB 1 8 (dY s j).2).1 hF2.cur af);have hl2:=Gj (Pl.dB 1 8 (dY s j).2).1 (Pl.dB 1 8 (dY s j).2).2;clear hc2 Gm q1
   go_wp2_with fail
   refine(bH HCB).mono ?_;rintro e W3 ⟨rfl,hc3,kc3,-⟩;have hF3:=hF2.yX kc3 hc3;have uR:=(hRj.kept kc2 (fun e=>uT.2 e)).kept kc3 (fun e=>uT.2 e);have EX:Hid (dY s (j+1)=((dY s j).1++[(Pl.gJ (Pl.dB 1 8 (dY s j).2).1 (Pl.dB 1 8 (dY s j).2).2).1],((Pl.gJ (Pl.dB 1 8 (dY s j).2).1 (Pl.dB 1 8 (dY s j).2).2).2.1,(Pl.gJ (Pl.dB 1 8 (dY s j).2).1 (Pl.dB 1 8 (dY s j).2).2).2.2||decide ((Pl.gJ (Pl.dB 1 8 (dY s j).2).1 (Pl.dB 1 8 (dY s j).2).2).1∈(dY s j).1)))):=UO.out;have hlt3:(Pl.gJ (Pl.dB 1 8 (dY s j).2).1 (Pl.dB 1 8 (dY s j).2).2).2.1.length≤5000:=af;clear hc3 HCB UO hF2 kc2 kc3 hl1 hl2 MZ hRj;generalize(Pl.gJ (Pl.dB 1 8 (dY s j).2).1 (Pl.dB 1 8 (dY s j).2).2).1=X at*;generalize(Pl.gJ (Pl.dB 1 8 (dY s j).2).1 (Pl.dB 1 8 (dY s j).2).2).2=cX at*;generalize(Pl.dB 1 8 (dY s j).2).1=kn at*;obtain⟨rE,ac0⟩:∃rE,rE=(dY s j).1:=⟨_,rfl⟩
   rw[←ac0]at hF3 EX D9;clear ac0
   go_wp2_with fail
   go_loopw [12] (fun i wq=>∃q:Nat,i=.int .i64 q∧q≤rE.length∧kN w wq k F Q jK (.slice none 0 0) (.slice none 0 0) [] rE [] [] (cX.1,cX.2||decide (X∈rE.take q))∧bK wq w.heap.size [.slice none 0 0,.slice none 0 0,.slice none 0 0] 179) (fun i _=>rE.length-(intOf i).toNat)
   case atStart=>exact⟨0,rfl,af,by simpa using hF3,uR⟩
   case round=>
    obtain⟨q,rfl,hq,zy,qj⟩:=hrel;have f0:=zy.blk.cell 0;simp only[aA]at f0;obtain⟨na,nc,rfl,hnc⟩:=zy.Eb.shape;by_cases kK:q<rE.length
    ·have q1:(q:Int)<(rE.length:Int):=af;have q0:(0:Int)≤(q:Int):=af;obtain⟨g,cap,he,-,-,hc⟩:=zy.Eb.at af;simp only[Value.slice.injEq]at he;obtain⟨rfl,-,rfl⟩:=he;have d0:=(hc q af).trans (show(rE.map tx)[q]?=some (tx rE[q]) by rw[aN,ay kK];rfl);have hst:decide (X∈rE.take (q+1))=(decide (X∈rE.take q)||decide (rE[q]=X)):=by
      rw[aF kK];simp only[aI,aZ,Bool.decide_or]
      congr 1
      exact decide_eq_decide.2 eq_comm
     have HST:=hide hst;clear hc hst;generalize rE[q]=Nm at*;by_cases he:Nm=X
     ·subst he;have f1:=zy.cur.free 1;have c1:=zy.cur.cell 1;simp only[nV,au]at c1;have hF4:=zy.yX (bI wr Q 1 (.bool true)) (c':=(cX.1,true)) (zy.cur.set 1 (.bool true));have hR4:=qj.kept (bI wr Q 1 (.bool true)) (fun e=>uT.2 e)
      go_wp2_with fail
      go_roundw
      case rel=>exact⟨q+1,by go_num,af,by rw[HST.out];simpa using hF4,hR4⟩
      case measure=>simp[intOf];omega
     ·have Dx:(Nm==X)=false:=by simpa using he
      have HDE:Hid (decide (Nm=X)=false):=aG he
      go_wp2_with fail
      go_roundw
      case rel=>exact⟨q+1,by go_num,af,by rw[HST.out,HDE.out,Bool.or_false];exact zy,qj⟩
      case measure=>simp[intOf];omega
    ·obtain rfl:q=rE.length:=af;have q1:¬(rE.length:Int)<(rE.length:Int):=af;rw[aX]at zy;have b0:=zy.blk.free 0;have HFQ:=hide zy;have HRQ:=hide qj;have JD:Ext wr (wr.alloc (.cells #[tx X] 9)):=ax.alloc _;have wT:=zy.more JD;clear zy qj
     go_wp2_with (at_builtin;go_must (refine dI _ rfl _ _ 22 22 rfl 9 (.string ⟨#[]⟩) 1 16 Tryz.underlying22 CW rfl _ _ _ rfl wT.Eb _ rfl 1 _ (dO _ _ aj _ _ Tryz.underlying22 _ [tx X] rfl (by intro u hu;simp at hu;subst hu;rfl)) af af ?_);intro v3 w3 o3 k3 s3;obtain⟨M0,M4,rfl,-⟩:=o3.shape;have bF:=wT.blk.kept k3 (fun e=>by have:=wT.nk F e;rw[wT.kF]at this;omega);have g0:=bF.cell 0;have g1:=bF.free 0;simp only[aA]at g0)
     have rX:=wT.RL (x:=X) k3 s3 o3;have kR:¬Of (.slice na rE.length nc) w.heap.size:=fun e=>by have:=wT.nk _ e;omega
     have nE:=((HRQ.out.kept JD id).kept k3 kR).kept (bI w3 F 0 (.slice M0 (rE.length+1) M4)) (fun e=>uT.1 e);have hk5:jH k (.slice M0 (rE.length+1) M4) 3 w.heap.size=0:=by
      unfold jH;rw[if_neg]
      ·exact hkj
      ·intro e;rcases eT s3 e with e'|e'
       ·exact kR e'
       ·have:=HRQ.out.lt;have:=JD.size;omega
     go_wp2_with fail
     go_roundw
     case rel=>exact⟨j+1,_,_,by go_num,af,by rw[EX.out];exact rX,nE,hk5,by rw[EX.out];exact hlt3,by rw[EX.out];simp;omega⟩
     case measure=>simp[intOf];omega
  ·have Zi:Hid (Pl.iL s=dY s j):=by
    show _=_;refine XR (by rw[←HN.out];exact hj) ?_;rw[←HN.out];cases hb:(dY s j).2.2 with
    |true=>exact .inl rfl
    |false=>exact .inr (Classical.byContradiction fun e=>hgo ⟨af,hb⟩)
   have hsp:(decide ((j:Int)<(n:Int))=true∧(dY s j).2.2=true∧(j:Int)<(n:Int))∨(decide ((j:Int)<(n:Int))=false∧True∧¬(j:Int)<(n:Int)):=by
    by_cases h1:j<n
    ·refine .inl ⟨aH af,?_,af⟩;cases hb:(dY s j).2.2 with
     |true=>rfl
     |false=>exact absurd ⟨h1,hb⟩ hgo
    ·exact .inr ⟨aG af,trivial,af⟩
   have Gm:=hide (tN wr Q (dY s j).2 0 6 MZ.cur af);have hl1:=tT 0 6 (dY s j).2;have hi1:=Ip 0 6 af (dY s j).2;have HF2:=hide MZ;have HR2:=hide hRj;have hbq:∀b,(dY s j).2.2=b→wr.cell? ⟨Q,1,none⟩=some (.bool b):=fun b e=>by rw[←e];exact q1
   have HBQ:=hide hbq;clear MZ hRj hgo q1 hbq;have Gc:Hid (Pl.dJ s foot=dM n foot (Pl.dB 0 6 (dY s j).2).2 (Pl.dB 0 6 (dY s j).2).1):=by
    show _=_;unfold Pl.dJ dM;rw[Zi.out,HN.out]
   have HB1:Hid ((dY s j).2.2=true→wr.cell? ⟨Q,1,none⟩=some (.bool true)):=fun e=>HBQ.out true e
   clear HBQ;rcases hsp with⟨d1,d2,d3⟩|⟨d1,d2,d3⟩
   all_goals(
    first|(have q1:=HB1.out d2;clear HB1;go_wp2_with fail;refine(bH Gm).mono ?_)|(clear HB1;go_wp2_with fail;refine(bH Gm).mono ?_)
    rintro e W4 ⟨rfl,hc4,kc4,-⟩;have hF4:=HF2.out.yX kc4 hc4;have hR4:=HR2.out.kept kc4 (fun e=>uT.2 e);have Ii:(Pl.dB 0 6 (dY s j).2).2.1.length≤5000:=af;clear hc4 Gm HF2 HR2 hl1;generalize(Pl.dB 0 6 (dY s j).2).1=gn at*;generalize(Pl.dB 0 6 (dY s j).2).2=dW at*
    go_wp2_with fail
    go_loopw [14] (fun i wq=>∃(j3:Nat)(k3:Nat→Nat)(j_ jZ:Value)(bJ:List Value),i=.int .i64 j3∧j3≤gn∧kN w wq k3 F Q jK j_ jZ bJ (dY s j).1 (dM n foot dW j3).1.1 (dM n foot dW j3).1.2 (dM n foot dW j3).2∧bK wq w.heap.size [.slice none 0 0,.slice none 0 0,.slice none 0 0] 179∧k3 w.heap.size=0∧(dM n foot dW j3).2.1.length≤5000∧(dM n foot dW j3).1.1.length≤j3∧(dM n foot dW j3).1.2.length≤j3) (fun i _=>10-(intOf i).toNat)
    case atStart=>exact⟨0,k,_,_,[],rfl,af,hF4,hR4,hkj,Ii,aK _,aK _⟩
    case round=>
     obtain⟨j3,k3,j_,jZ,bJ,rfl,hj3,rX,nE,hk5,hl5,FL,hp5⟩:=hrel;have p1:=rX.cur.cell 1;simp only[nV,au]at p1;by_cases hgo:j3<gn∧(dM n foot dW j3).2.2=false
     ·obtain⟨hjn,hbad⟩:=hgo;rw[hbad]at p1;have j1:(j3:Int)<(gn:Int):=af;have dj1:decide ((j3:Int)<(gn:Int))=true:=aH j1;have UO:=hide (UL hbad);obtain⟨ra,rc,rfl,hrc⟩:=rX.row.shape;have f1:=rX.blk.cell 1;simp only[au]at f1;have xd:Ext wr wr.drew:=ax.drew;have hF6:=rX.more xd;have Gm:=hide (tN wr.drew Q (dM n foot dW j3).2 1 20 hF6.cur af);have hl6:=tT 1 20 (dM n foot dW j3).2
      go_upto_region 19 with fail
      have hS0:wr.drew.cell? ⟨F,1,none⟩=some (.slice ra (dM n foot dW j3).1.1.length rc):=f1;refine bZ (n:=7) (fun u=>u.cell? ⟨F,1,none⟩=some (.slice ra (dM n foot dW j3).1.1.length rc)) (by kernel_rfl) ?_;refine Late.t 0 [7] rfl hS0 ?_;refine Late.t 1 [7] rfl hS0 ?_;refine Late.t 2 [7] rfl hS0 ?_;refine Late.o 3 rfl (fun K hK=>?_);refine fe rfl 131 #[.pointer (some ⟨Q,0,none⟩),.int .i64 1,.int .i64 20] (by go_simp) ?_;refine(bH Gm).mono ?_;rintro e W6 ⟨rfl,hc6,kc6,-⟩;have hF7:=hF6.yX kc6 hc6;have g1:=hF7.blk.cell 1;simp only[au]at g1;refine⟨_,rfl,hK _ _ (fun _=>g1) ?_⟩;clear hK K;try simp only[lX]
      have PZ:=(nE.kept xd id).kept kc6 (fun e=>uT.2 e);have EX:Hid (dM n foot dW (j3+1)=(((dM n foot dW j3).1.1++[(Pl.dB 1 20 (dM n foot dW j3).2).1],(dM n foot dW j3).1.2++[(fI foot (Pl.dB 1 20 (dM n foot dW j3).2).2 n).1]),(fI foot (Pl.dB 1 20 (dM n foot dW j3).2).2 n).2)):=UO.out;have UQ:(Pl.dB 1 20 (dM n foot dW j3).2).2.1.length≤5000:=af;clear UO Gm hc6 hl6 hF6 rX nE f1 hS0 kc6;generalize(Pl.dB 1 20 (dM n foot dW j3).2).1=rn at*;generalize(Pl.dB 1 20 (dM n foot dW j3).2).2=gV at*;generalize(dM n foot dW j3).1.1=rws at*;generalize(dM n foot dW j3).1.2=JE at*;have JD:Ext W6 (W6.alloc (.cells #[.int .i64 (rn:Int)] 3)):=ax.alloc _;have wT:=hF7.more JD;have gA:=wT.blk.cell 1;simp only[au]at gA;refine Late.o 4 rfl (fun K hK=>?_);go_simp;refine hK _ _ (fun _=>gA) ?_;clear hK K;try simp only[lX]
      refine Late.o 5 rfl (fun K hK=>?_);refine d_ rfl _ _ 46 46 rfl 3 (.int .i64 0) 1 8 Tryz.underlying46 nZ rfl _ _ _ (by rfl) wT.row _ (by rfl) 1 _ (dO _ _ rfl _ _ Tryz.underlying46 _ [.int .i64 (rn:Int)] rfl (by intro u hu;simp at hu;subst hu;rfl)) af af ?_;intro v8 W8 o8 k8 s8;obtain⟨wQ,wR,rfl,-⟩:=o8.shape;have bF:=wT.blk.kept k8 (fun e=>by have:=wT.rk F e;rw[wT.kF]at this;omega);have g8:=bF.cell 1;have ML:=bF.free 1;simp only[au]at g8;refine hK _ _ (fun _=>g8) ?_;clear hK K;try simp only[lX]
      refine Late.o 6 rfl (fun K hK=>?_);go_simp;refine hK _ _ (fun _=>g8) ?_;clear hK K;try simp only[lX]
      refine Late.o 7 rfl (fun K hK=>?_);go_simp;refine hK _ _ (fun h=>absurd rfl h) ?_;clear hK K;try simp only[lX]
      refine Late.done (by kernel_rfl) ?_ _;have hF9:=wT.ai6 (x:=rn) k8 s8 o8;have kR:¬Of (.slice ra rws.length rc) w.heap.size:=fun e=>by have:=wT.rk _ e;omega
      have hR9:=((PZ.kept JD id).kept k8 kR).kept (bI W8 F 1 (.slice wQ (rws.length+1) wR)) (fun e=>uT.1 e);have hk9:jH k3 (.slice wQ (rws.length+1) wR) 4 w.heap.size=0:=by
       unfold jH;rw[if_neg]
       ·exact hk5
       ·intro e;rcases eT s8 e with e'|e'
        ·exact kR e'
        ·have:=PZ.lt;have:=JD.size;omega
      generalize jH k3 (.slice wQ (rws.length+1) wR) 4=k9 at*;clear bF g8 ML o8 k8 s8 wT gA hF7 g1 PZ JD kR
      go_wp2_with fail
      generalize W8.setCell ⟨F,1,none⟩ (.slice wQ (rws.length+1) wR)=W9 at*;go_loopw [15,16] (fun lv i wq=>∃(j4:Nat)(k4:Nat→Nat),i=.int .i64 j4∧j4≤n∧kN w wq k4 F Q jK (.slice wQ (rws.length+1) wR) jZ bJ (dY s j).1 (rws++[rn]) JE (fI foot gV j4).2∧bK wq w.heap.size [.slice none 0 0,.slice none 0 0,.slice none 0 0] 179∧k4 w.heap.size=0∧Own wq 3 lv (fI foot gV j4).1.length ((fI foot gV j4).1.flatMap yV)∧(∀g,lv.ownBlock=some g→k4 g=7)∧(fI foot gV j4).2.1.length≤5000∧(fI foot gV j4).1.length≤j4) (fun _ i _=>10-(intOf i).toNat)
      case atStart=>exact⟨0,k9,rfl,af,hF9,hR9,hk9,Own.nil _ _,fun g e=>by simp[Value.ownBlock]at e,UQ,aK _⟩
      case round=>
       obtain⟨j4,k4,rfl,hj4,Ec,UR,hkB,Zj,hgB,hlB,hcB⟩:=hrel;have y1:=Ec.cur.cell 1;simp only[nV,au]at y1;obtain⟨la,lc,rfl,hlc⟩:=Zj.shape;by_cases RN:j4<n∧(fI foot gV j4).2.2=false
       ·obtain⟨anr,Zk⟩:=RN;rw[Zk]at y1;have i1:(j4:Int)<(n:Int):=af;have di1:decide ((j4:Int)<(n:Int))=true:=aH i1;have XV:=hide (UM Zk);have xP:Ext wr (wr.alloc (.cells #[.int .i64 0,.int .i64 0,.string ⟨#[]⟩] 207)):=ax.alloc _;have bP:=bK.bO wr [.int .i64 0,.int .i64 0,.string ⟨#[]⟩] 207
        go_upto_region 25 with fail
        have UU:=Ec.more xP;have hRC:=UR.kept xP id;have hoC:=Zj.ext xP;have yt:k4 wr.heap.size=0:=Ec.top _ (aK _);have RO:w.heap.size≤wr.heap.size:=Ec.ext.size;have ai8:=UR.lt;generalize wr.alloc (.cells #[.int .i64 0,.int .i64 0,.string ⟨#[]⟩] 207)=WA at*;obtain⟨PB,ac7⟩:∃PB,PB=wr.heap.size:=⟨_,rfl⟩
        rw[←ac7]at bP yt RO ai8⊢;have Ed:PB≠w.heap.size∧PB≠Q∧PB≠F:=⟨af,(fun e=>by rw[e,UU.kQ]at yt;omega),(fun e=>by rw[e,UU.kF]at yt;omega)⟩
        clear ac7 Ec UR Zj y1;have BA:=hide (tN WA Q (fI foot gV j4).2 4 foot UU.cur af);have hL1:=tT 4 foot (fI foot gV j4).2;have hP1:(Pl.dB 4 foot (fI foot gV j4).2).1≤4000:=by
         unfold Pl.dB;split
         ·simp
         ·rename_i hn;have:Pl.jX 4 foot (fI foot gV j4).2.1:=Classical.byContradiction fun e=>hn (.inr e)
          have:=this.2.2;simp only;omega
        have c0:=bP.cell 0;have f0:=bP.free 0;simp only[aA]at c0
        go_wp2_with fail
        refine(bH BA).mono ?_;rintro e wP ⟨rfl,ac8,RQ,-⟩;have ac9:=UU.yX RQ ac8;have b10:=bP.kept RQ (fun e=>Ed.2.1 e);have ac_:=hRC.kept RQ (fun e=>uT.2 e);have Zl:∀g,(Value.slice la (fI foot gV j4).1.length lc).ownBlock=some g→¬g=Q:=fun g hg e=>by have:=hgB g hg;rw[e,UU.kQ]at this;omega
        have hlP:∀g,(Value.slice la (fI foot gV j4).1.length lc).ownBlock=some g→¬g=PB:=fun g hg e=>by have:=hgB g hg;rw[e,yt]at this;omega
        have adb:=hoC.kept RQ Zl;have c0':=b10.cell 0;have f0':=b10.free 0;simp only[aA]at c0';clear c0 f0 BA ac8;have sw:Hid (fI foot gV (j4+1)=Pl.qC foot (fI foot gV j4)):=XV;have Zm:Hid (Pl.qC foot (fI foot gV j4)=((fI foot gV j4).1++[⟨(Pl.dB 4 foot (fI foot gV j4).2).1,(Pl.dB 1 4000 (Pl.dB 4 foot (fI foot gV j4).2).2).1,(Pl.gJ 4 (Pl.dB 1 4000 (Pl.dB 4 foot (fI foot gV j4).2).2).2).1⟩],((Pl.gJ 4 (Pl.dB 1 4000 (Pl.dB 4 foot (fI foot gV j4).2).2).2).2.1,(Pl.gJ 4 (Pl.dB 1 4000 (Pl.dB 4 foot (fI foot gV j4).2).2).2).2.2||decide (foot<(Pl.dB 4 foot (fI foot gV j4).2).1+(Pl.dB 1 4000 (Pl.dB 4 foot (fI foot gV j4).2).2).1)))):=by show _=_;rfl
        generalize(Pl.dB 4 foot (fI foot gV j4).2).1=pp at*;generalize(Pl.dB 4 foot (fI foot gV j4).2).2=UW at*;generalize(fI foot gV j4).1=Gn at*;have Zn:=bI wP PB 0 (.int .i64 (pp:Int));have XW:=ac9.aside PB yt RO Zn;have b11:=b10.set 0 (.int .i64 (pp:Int));have ade:=ac_.kept Zn (fun e=>Ed.1 e.symm);have adf:=adb.kept Zn hlP
        go_upto_region 26 with fail
        generalize wP.setCell ⟨PB,0,none⟩ (.int .i64 (pp:Int))=W11 at*;have YO:=hide (tN W11 Q UW 1 4000 XW.cur af);have hL2:=tT 1 4000 UW;have hP2:=Ip 1 4000 af UW;clear c0' f0' ac9 b10 ac_ adb Zn
        go_wp2_with fail
        refine(bH YO).mono ?_;rintro e W12 ⟨rfl,adg,RS,-⟩;have adh:=XW.yX RS adg;have b12:=b11.kept RS (fun e=>Ed.2.1 e);have adi:=ade.kept RS (fun e=>uT.2 e);have adj:=adf.kept RS Zl;have c1':=b12.cell 1;have f1':=b12.free 1;simp only[List.set_cons_zero,au]at c1';clear YO adg XW b11 ade adf;generalize(Pl.dB 1 4000 UW).1=pq at*;generalize(Pl.dB 1 4000 UW).2=UX at*;have Pz:=bI W12 PB 1 (.int .i64 (pq:Int));have XY:=adh.aside PB yt RO Pz;have b13:=b12.set 1 (.int .i64 (pq:Int));have adk:=adi.kept Pz (fun e=>Ed.1 e.symm);have adl:=adj.kept Pz hlP
        go_upto_region 27 with fail
        generalize W12.setCell ⟨PB,1,none⟩ (.int .i64 (pq:Int))=W13 at*;have HN3:=hide (FH W13 Q UX 4 XY.cur af);have hL3:=Gj 4 UX;clear c1' f1' adh b12 adi adj Pz
        go_wp2_with fail
        refine(bH HN3).mono ?_;rintro e W14 ⟨rfl,XZ,RU,-⟩;have adm:=XY.yX RU XZ;have b14:=b13.kept RU (fun e=>Ed.2.1 e);have adn:=adk.kept RU (fun e=>uT.2 e);have ado:=adl.kept RU Zl;have c2':=b14.cell 2;have f2':=b14.free 2;simp only[List.set_cons_zero,List.set_cons_succ,au]at c2';clear HN3 XZ XY b13 adk adl;have hlU:(Pl.gJ 4 UX).2.1.length≤5000:=af;generalize(Pl.gJ 4 UX).1=sD at*;generalize(Pl.gJ 4 UX).2=Zo at*;have PD:=bI W14 PB 2 (tx sD);have M5:=adm.aside PB yt RO PD;have b15:=b14.set 2 (tx sD);have adp:=adn.kept PD (fun e=>Ed.1 e.symm);have adq:=ado.kept PD hlP
        go_upto_region 28 with fail
        generalize W14.setCell ⟨PB,2,none⟩ (tx sD)=W15 at*;clear c2' f2' adm b14 adn ado PD;simp only[List.set_cons_zero,List.set_cons_succ]at b15;have z0:=b15.cell 0;have z1:=b15.cell 1;have z2:=b15.cell 2;simp only[au]at z0 z1 z2;by_cases hov:foot<pp+pq
        ·have ai9:(foot:Int)<(pp:Int)+(pq:Int):=af;have Ce:Hid (fI foot gV (j4+1)=(Gn++[⟨pp,pq,sD⟩],(Zo.1,true))):=by
          show _=_;rw[sw.out,Zm.out,aH hov,Bool.or_true]
         clear sw Zm XV;have sw:=Ce;have qc:=M5.cur.cell 1;have qf:=M5.cur.free 1;simp only[nV,au]at qc;have Zp:=bI W15 Q 1 (.bool true);have hFE:=M5.yX Zp (c':=(Zo.1,true)) (M5.cur.set 1 (.bool true));have zx:=adp.kept Zp (fun e=>uT.2 e);have hoE:=adq.kept Zp Zl;have bE:=b15.kept Zp (fun e=>Ed.2.1 e)
         go_upto_region 30 with fail
         clear z0 z1 z2 qc qf;generalize W15.setCell ⟨Q,1,none⟩ (.bool true)=WE at*;have z0:=bE.cell 0;have z1:=bE.cell 1;have z2:=bE.cell 2;simp only[au]at z0 z1 z2
         go_wp2_with (at_builtin;go_must (refine dI _ rfl _ _ 205 205 rfl 207 zPg 3 32 Tryz.underlying205 UK rfl _ _ _ rfl (hoE.dV _) _ rfl 1 _ (dO _ _ aj _ _ Tryz.underlying205 _ [.int .i64 (pp:Int),.int .i64 (pq:Int),tx sD] rfl (by intro u hu;simp at hu;rcases hu with rfl|rfl|rfl<;>rfl)) af af ?_);intro v3 w3 o3 k3 s3)
         have xz:Ext WE (WE.alloc (.cells #[.int .i64 (pp:Int),.int .i64 (pq:Int),tx sD] 207)):=ax.alloc _;have Ee:=(hFE.more xz).grown hgB k3 s3 (fun g hg=>o3.lt hg);have UY:¬Of (.slice la Gn.length lc) w.heap.size:=fun e=>by have:=hgB _ e;omega
         have hRZ:=(zx.kept xz id).kept k3 UY;have hkZ:jH k4 v3 7 w.heap.size=0:=by
          unfold jH;rw[if_neg]
          ·exact hkB
          ·intro e;rcases eT s3 e with e'|e'
           ·exact UY e'
           ·have:=zx.lt;have:=xz.size;omega
         have HO3:Hid (Own w3 3 v3 (Gn++[(⟨pp,pq,sD⟩:Pl.RP)]).length ((Gn++[(⟨pp,pq,sD⟩:Pl.RP)]).flatMap yV)):=by
          show Own _ _ _ _ _;rw[aD,List.flatMap_append];exact o3
         go_wp2_with fail
         go_roundw
         case rel=>exact⟨j4+1,_,by go_num,af,by rw[sw.out];exact Ee,hRZ,hkZ,by rw[sw.out];exact HO3.out,fun g hg=>Cb hg,by rw[sw.out];exact hlU,by rw[sw.out];simp;omega⟩
         case measure=>simp[intOf];omega
        ·have ai9:¬(foot:Int)<(pp:Int)+(pq:Int):=af;have Ce:Hid (fI foot gV (j4+1)=(Gn++[⟨pp,pq,sD⟩],(Zo.1,Zo.2))):=by
          show _=_;rw[sw.out,Zm.out,aG hov,Bool.or_false]
         clear sw Zm XV;have sw:=Ce;have hFE:=M5;have zx:=adp;have hoE:=adq;generalize hWE:W15=WE at*;clear hWE
         go_wp2_with (at_builtin;go_must (refine dI _ rfl _ _ 205 205 rfl 207 zPg 3 32 Tryz.underlying205 UK rfl _ _ _ rfl (hoE.dV _) _ rfl 1 _ (dO _ _ aj _ _ Tryz.underlying205 _ [.int .i64 (pp:Int),.int .i64 (pq:Int),tx sD] rfl (by intro u hu;simp at hu;rcases hu with rfl|rfl|rfl<;>rfl)) af af ?_);intro v3 w3 o3 k3 s3)
         have xz:Ext WE (WE.alloc (.cells #[.int .i64 (pp:Int),.int .i64 (pq:Int),tx sD] 207)):=ax.alloc _;have Ee:=(hFE.more xz).grown hgB k3 s3 (fun g hg=>o3.lt hg);have UY:¬Of (.slice la Gn.length lc) w.heap.size:=fun e=>by have:=hgB _ e;omega
         have hRZ:=(zx.kept xz id).kept k3 UY;have hkZ:jH k4 v3 7 w.heap.size=0:=by
          unfold jH;rw[if_neg]
          ·exact hkB
          ·intro e;rcases eT s3 e with e'|e'
           ·exact UY e'
           ·have:=zx.lt;have:=xz.size;omega
         have HO3:Hid (Own w3 3 v3 (Gn++[(⟨pp,pq,sD⟩:Pl.RP)]).length ((Gn++[(⟨pp,pq,sD⟩:Pl.RP)]).flatMap yV)):=by
          show Own _ _ _ _ _;rw[aD,List.flatMap_append];exact o3
         go_wp2_with fail
         go_roundw
         case rel=>exact⟨j4+1,_,by go_num,af,by rw[sw.out];exact Ee,hRZ,hkZ,by rw[sw.out];exact HO3.out,fun g hg=>Cb hg,by rw[sw.out];exact hlU,by rw[sw.out];simp;omega⟩
         case measure=>simp[intOf];omega
       ·have HPE:Hid (fI foot gV n=fI foot gV j4):=by
         show _=_;refine XU hj4 ?_;cases hb:(fI foot gV j4).2.2 with
         |true=>exact .inl rfl
         |false=>exact .inr (Classical.byContradiction fun e=>RN ⟨af,hb⟩)
        have ai_:(decide ((j4:Int)<(n:Int))=true∧(fI foot gV j4).2.2=true∧(j4:Int)<(n:Int))∨(decide ((j4:Int)<(n:Int))=false∧True∧¬(j4:Int)<(n:Int)):=by
         by_cases h1:j4<n
         ·refine .inl ⟨aH af,?_,af⟩;cases hb:(fI foot gV j4).2.2 with
          |true=>rfl
          |false=>exact absurd ⟨h1,hb⟩ RN
         ·exact .inr ⟨aG af,trivial,af⟩
        have Ce:Hid (dM n foot dW (j3+1)=((rws++[rn],JE++[(fI foot gV j4).1]),(fI foot gV j4).2)):=by show _=_;rw[EX.out,HPE.out]
        have Zq:bM (fun b=>k4 b=7) false wr 3 (.slice la (fI foot gV j4).1.length lc) (fI foot gV j4).1.length ((fI foot gV j4).1.flatMap yV):=(Zj.rowAt (fun b=>k4 b=7) hgB).weak;have xz:Ext wr (wr.alloc (.cells #[.slice la (fI foot gV j4).1.length lc] 205)):=ax.alloc _;have Ee:=Ec.more xz;have afh:bM (fun b=>k4 b=7) false _ 3 (.slice la (fI foot gV j4).1.length lc) (fI foot gV j4).1.length ((fI foot gV j4).1.flatMap yV):=Zq.go xz (fun _ _ f=>f) (fun _ _ e=>e);obtain⟨pga,P9,rfl,ai3⟩:=Ec.Gi.shape;have fp:=Ec.blk.cell 2;simp only[au]at fp;have HBq:Hid ((fI foot gV j4).2.2=true→wr.cell? ⟨Q,1,none⟩=some (.bool true)):=fun e=>by rw[←e];exact y1
        have HFB:=hide Ec;have HRB:=hide UR;clear Ec UR RN y1 Zq EX HPE;have hpl:JE.length≤6:=af;rcases ai_ with⟨e1,e2,e3⟩|⟨e1,e2,e3⟩
        all_goals(
         first|(have y1:=HBq.out e2;clear HBq)|clear HBq
         go_wp2_with (at_builtin;go_must (refine dI _ rfl _ _ 177 177 rfl 205 (.slice none 0 0) 1 24 Tryz.underlying177 aav rfl _ _ _ rfl Ee.Gi _ rfl 1 _ (dO _ _ aj _ _ Tryz.underlying177 _ [.slice la (fI foot gV j4).1.length lc] rfl (by intro u hu;simp at hu;subst hu;rfl)) af af ?_);intro v3 w3 o3 k3' s3;obtain⟨M0,M4,rfl,-⟩:=o3.shape;have bF:=Ee.blk.kept k3' (fun e=>by have:=Ee.pk F e;rw[Ee.kF]at this;omega);have g0:=bF.cell 2;have g1:=bF.free 2;simp only[au]at g0)
         have hFY:=Ee.ai7 k3' s3 o3 afh;have kRy:¬Of (.slice pga JE.length P9) w.heap.size:=fun e=>by have:=Ee.pk _ e;omega
         have hRY:=((HRB.out.kept xz id).kept k3' kRy).kept (bI w3 F 2 (.slice M0 (JE.length+1) M4)) (fun e=>uT.1 e);have hkY:(if jH k4 (.slice M0 (JE.length+1) M4) 5 w.heap.size=7 then 6 else jH k4 (.slice M0 (JE.length+1) M4) 5 w.heap.size)=0:=by
          have:jH k4 (.slice M0 (JE.length+1) M4) 5 w.heap.size=0:=by
           unfold jH;rw[if_neg]
           ·exact hkB
           ·intro e;rcases eT s3 e with e'|e'
            ·exact kRy e'
            ·have:=HRB.out.lt;have:=xz.size;omega
          rw[this];rfl
         go_wp2_with fail
         go_roundw
         case rel=>exact⟨j3+1,_,_,_,_,by go_num,af,by rw[Ce.out];exact hFY,hRY,hkY,by rw[Ce.out];exact hlB,by rw[Ce.out];simp;omega,by rw[Ce.out];simp;omega⟩
         case measure=>simp[intOf];omega)
     ·have Px:Hid (Pl.dJ s foot=dM n foot dW j3):=by
       show _=_;rw[Gc.out];refine XT hj3 ?_;cases hb:(dM n foot dW j3).2.2 with
       |true=>exact .inl rfl
       |false=>exact .inr (Classical.byContradiction fun e=>hgo ⟨af,hb⟩)
      have aja:(decide ((j3:Int)<(gn:Int))=true∧(dM n foot dW j3).2.2=true∧(j3:Int)<(gn:Int))∨(decide ((j3:Int)<(gn:Int))=false∧(dM n foot dW j3).2.2=true∧¬(j3:Int)<(gn:Int))∨(decide ((j3:Int)<(gn:Int))=false∧(dM n foot dW j3).2.2=false∧¬(j3:Int)<(gn:Int)):=by
       by_cases h1:j3<gn
       ·refine .inl ⟨aH af,?_,af⟩;cases hb:(dM n foot dW j3).2.2 with
        |true=>rfl
        |false=>exact absurd ⟨h1,hb⟩ hgo
       ·cases hb:(dM n foot dW j3).2.2 with
        |true=>exact .inr (.inl ⟨aG af,rfl,af⟩)
        |false=>exact .inr (.inr ⟨aG af,rfl,af⟩)
      have AL:Hid (Pl.zl s foot=(!(dM n foot dW j3).2.2&&decide ((dM n foot dW j3).2.1.length=0))):=by show _=_;unfold Pl.zl;rw[Px.out]
      have p0:=rX.cur.cell 0;have v0:=rX.blk.cell 0;have v1:=rX.blk.cell 1;have v2:=rX.blk.cell 2;simp only[nV,au]at p0 v0 v1 v2;obtain⟨n1,n2,rfl,-⟩:=rX.Eb.shape;obtain⟨r1,r2,rfl,-⟩:=rX.row.shape;obtain⟨g1,g2,rfl,-⟩:=rX.Gi.shape;have HF5:=hide rX;have Zr:=nE.cell 0;have Zt:=nE.cell 1;have Zu:=nE.cell 2;have r0f:=nE.free 0;have r1f:=nE.free 1;have r2f:=nE.free 2;simp only[au]at Zr Zt Zu;have HR5:=hide nE;clear hgo Gc;rcases aja with⟨e1,e2,e3⟩|⟨e1,e2,e3⟩|⟨e1,e2,e3⟩
      all_goals(
       rw[e2]at p1 AL
       go_upto_region 32 with fail
       obtain⟨cz,hcz⟩:∃cz:Bool,cz=((dM n foot dW j3).2.1==[]):=⟨_,rfl⟩
       have HCZ:Hid (decide ((dM n foot dW j3).2.1.length=0)=cz):=by
        show _=_;rw[hcz];cases (dM n foot dW j3).2.1<;>rfl
       have ant:=hcz.symm;clear hcz;have sQ:Kp (fun b=>b=w.heap.size) wr.drew (((wr.drew.setCell ⟨w.heap.size,0,none⟩ (.slice n1 (dY s j).1.length n2)).setCell ⟨w.heap.size,1,none⟩ (.slice r1 (dM n foot dW j3).1.1.length r2)).setCell ⟨w.heap.size,2,none⟩ (.slice g1 (dM n foot dW j3).1.2.length g2)):=((bI _ _ _ _).trans (bI _ _ _ _)).trans (bI _ _ _ _);have Gp:¬F=w.heap.size:=fun e=>uT.1 e.symm
       have hQR:¬Q=w.heap.size:=fun e=>uT.2 e.symm
       have hS0:wr.drew.cell? ⟨F,0,none⟩=some (.slice n1 (dY s j).1.length n2)∧wr.drew.cell? ⟨F,1,none⟩=some (.slice r1 (dM n foot dW j3).1.1.length r2)∧wr.drew.cell? ⟨F,2,none⟩=some (.slice g1 (dM n foot dW j3).1.2.length g2)∧wr.drew.cell? ⟨Q,0,none⟩=some (tx (dM n foot dW j3).2.1)∧wr.drew.cell? ⟨Q,1,none⟩=some (.bool (dM n foot dW j3).2.2):=⟨v0,v1,v2,p0,by rw[e2];exact p1⟩
       rw[e2]at hS0)
      ·refine bZ (n:=14) (fun u=>u.cell? ⟨F,0,none⟩=some (.slice n1 (dY s j).1.length n2)∧u.cell? ⟨F,1,none⟩=some (.slice r1 (dM n foot dW j3).1.1.length r2)∧u.cell? ⟨F,2,none⟩=some (.slice g1 (dM n foot dW j3).1.2.length g2)∧u.cell? ⟨Q,0,none⟩=some (tx (dM n foot dW j3).2.1)∧u.cell? ⟨Q,1,none⟩=some (.bool true)) (by kernel_rfl) ?_;refine Late.t 0 [14] rfl hS0 ?_;refine Late.t 1 [14] rfl hS0 ?_;refine Late.t 2 [14] rfl hS0 ?_;refine Late.t 3 [14] rfl hS0 ?_;refine Late.t 4 [14] rfl hS0 ?_;refine Late.t 5 [14] rfl hS0 ?_;refine Late.t 6 [14] rfl hS0 ?_;refine Late.s 7 [14] rfl hS0 ?_;refine Late.s 8 [14] rfl hS0 ?_;refine Late.s 9 [14] rfl hS0 ?_;refine Late.s 10 [14] rfl hS0 ?_;refine Late.s 11 [14] rfl hS0 ?_;refine Late.t 12 [14] rfl hS0 ?_;refine Late.o 13 rfl (fun K hK=>?_);go_simp;refine hK _ _ (fun _=>⟨sQ.cell hS0.1 Gp,sQ.cell hS0.2.1 Gp,sQ.cell hS0.2.2.1 Gp,sQ.cell hS0.2.2.2.1 hQR,sQ.cell hS0.2.2.2.2 hQR⟩) ?_;clear hK K;try simp only[lX]
       refine Late.o 14 rfl (fun K hK=>?_);go_simp;refine hK _ _ (fun h=>absurd rfl h) ?_;clear hK K;try simp only[lX]
       refine Late.done (by kernel_rfl) ?_ _;have JF:Kp (fun b=>b=w.heap.size) wr ((((wr.setCell ⟨w.heap.size,0,none⟩ (.slice n1 (dY s j).1.length n2)).setCell ⟨w.heap.size,1,none⟩ (.slice r1 (dM n foot dW j3).1.1.length r2)).setCell ⟨w.heap.size,2,none⟩ (.slice g1 (dM n foot dW j3).1.2.length g2)).drew):=(((bI _ _ _ _).trans (bI _ _ _ _)).trans (bI _ _ _ _)).drew;have HB:Hid (bK ((((wr.setCell ⟨w.heap.size,0,none⟩ (.slice n1 (dY s j).1.length n2)).setCell ⟨w.heap.size,1,none⟩ (.slice r1 (dM n foot dW j3).1.1.length r2)).setCell ⟨w.heap.size,2,none⟩ (.slice g1 (dM n foot dW j3).1.2.length g2)).drew) w.heap.size [.slice n1 (dY s j).1.length n2,.slice r1 (dM n foot dW j3).1.1.length r2,.slice g1 (dM n foot dW j3).1.2.length g2] 179):=(((HR5.out.set 0 _).set 1 _).set 2 _).kept (Kp.refl (fun _=>False) _).drew id;have UZ:=hide (HF5.out.aside w.heap.size hk5 (aK _) JF);clear hS0 Zr Zt Zu r0f r1f r2f v0 v1 v2 p0 p1 nE JF sQ
       go_wp2_with fail
       refine bodyPost_ret (Cc _ _ _ _ _ _ (.bool false) rfl rfl HB.out) rfl ?_;have Dv:Pl.zl s foot=false:=by rw[AL.out];rfl
       exact Gl.mk k3 F Q _ _ _ bJ _ (by rw[Dv]) (by rw[Zi.out,Px.out];exact UZ.out)
      ·refine bZ (n:=14) (fun u=>u.cell? ⟨F,0,none⟩=some (.slice n1 (dY s j).1.length n2)∧u.cell? ⟨F,1,none⟩=some (.slice r1 (dM n foot dW j3).1.1.length r2)∧u.cell? ⟨F,2,none⟩=some (.slice g1 (dM n foot dW j3).1.2.length g2)∧u.cell? ⟨Q,0,none⟩=some (tx (dM n foot dW j3).2.1)∧u.cell? ⟨Q,1,none⟩=some (.bool true)) (by kernel_rfl) ?_;refine Late.t 0 [14] rfl hS0 ?_;refine Late.t 1 [14] rfl hS0 ?_;refine Late.t 2 [14] rfl hS0 ?_;refine Late.t 3 [14] rfl hS0 ?_;refine Late.t 4 [14] rfl hS0 ?_;refine Late.t 5 [14] rfl hS0 ?_;refine Late.t 6 [14] rfl hS0 ?_;refine Late.s 7 [14] rfl hS0 ?_;refine Late.s 8 [14] rfl hS0 ?_;refine Late.s 9 [14] rfl hS0 ?_;refine Late.s 10 [14] rfl hS0 ?_;refine Late.s 11 [14] rfl hS0 ?_;refine Late.t 12 [14] rfl hS0 ?_;refine Late.o 13 rfl (fun K hK=>?_);go_simp;refine hK _ _ (fun _=>⟨sQ.cell hS0.1 Gp,sQ.cell hS0.2.1 Gp,sQ.cell hS0.2.2.1 Gp,sQ.cell hS0.2.2.2.1 hQR,sQ.cell hS0.2.2.2.2 hQR⟩) ?_;clear hK K;try simp only[lX]
       refine Late.o 14 rfl (fun K hK=>?_);go_simp;refine hK _ _ (fun h=>absurd rfl h) ?_;clear hK K;try simp only[lX]
       refine Late.done (by kernel_rfl) ?_ _;have JF:Kp (fun b=>b=w.heap.size) wr ((((wr.setCell ⟨w.heap.size,0,none⟩ (.slice n1 (dY s j).1.length n2)).setCell ⟨w.heap.size,1,none⟩ (.slice r1 (dM n foot dW j3).1.1.length r2)).setCell ⟨w.heap.size,2,none⟩ (.slice g1 (dM n foot dW j3).1.2.length g2)).drew):=(((bI _ _ _ _).trans (bI _ _ _ _)).trans (bI _ _ _ _)).drew;have HB:Hid (bK ((((wr.setCell ⟨w.heap.size,0,none⟩ (.slice n1 (dY s j).1.length n2)).setCell ⟨w.heap.size,1,none⟩ (.slice r1 (dM n foot dW j3).1.1.length r2)).setCell ⟨w.heap.size,2,none⟩ (.slice g1 (dM n foot dW j3).1.2.length g2)).drew) w.heap.size [.slice n1 (dY s j).1.length n2,.slice r1 (dM n foot dW j3).1.1.length r2,.slice g1 (dM n foot dW j3).1.2.length g2] 179):=(((HR5.out.set 0 _).set 1 _).set 2 _).kept (Kp.refl (fun _=>False) _).drew id;have UZ:=hide (HF5.out.aside w.heap.size hk5 (aK _) JF);clear hS0 Zr Zt Zu r0f r1f r2f v0 v1 v2 p0 p1 nE JF sQ
       go_wp2_with fail
       refine bodyPost_ret (Cc _ _ _ _ _ _ (.bool false) rfl rfl HB.out) rfl ?_;have Dv:Pl.zl s foot=false:=by rw[AL.out];rfl
       exact Gl.mk k3 F Q _ _ _ bJ _ (by rw[Dv]) (by rw[Zi.out,Px.out];exact UZ.out)
      ·refine bZ (n:=14) (fun u=>u.cell? ⟨F,0,none⟩=some (.slice n1 (dY s j).1.length n2)∧u.cell? ⟨F,1,none⟩=some (.slice r1 (dM n foot dW j3).1.1.length r2)∧u.cell? ⟨F,2,none⟩=some (.slice g1 (dM n foot dW j3).1.2.length g2)∧u.cell? ⟨Q,0,none⟩=some (tx (dM n foot dW j3).2.1)∧u.cell? ⟨Q,1,none⟩=some (.bool false)) (by kernel_rfl) ?_;refine Late.t 0 [14] rfl hS0 ?_;refine Late.t 1 [14] rfl hS0 ?_;refine Late.t 2 [14] rfl hS0 ?_;refine Late.t 3 [14] rfl hS0 ?_;refine Late.t 4 [14] rfl hS0 ?_;refine Late.t 5 [14] rfl hS0 ?_;refine Late.t 6 [14] rfl hS0 ?_;refine Late.t 7 [14] rfl hS0 ?_;refine Late.t 8 [14] rfl hS0 ?_;refine Late.t 9 [14] rfl hS0 ?_;refine Late.t 10 [14] rfl hS0 ?_;refine Late.t 11 [14] rfl hS0 ?_;refine Late.t 12 [14] rfl hS0 ?_;refine Late.o 13 rfl (fun K hK=>?_);go_simp;refine hK _ _ (fun _=>⟨sQ.cell hS0.1 Gp,sQ.cell hS0.2.1 Gp,sQ.cell hS0.2.2.1 Gp,sQ.cell hS0.2.2.2.1 hQR,sQ.cell hS0.2.2.2.2 hQR⟩) ?_;clear hK K;try simp only[lX]
       refine Late.o 14 rfl (fun K hK=>?_);go_simp;refine hK _ _ (fun h=>absurd rfl h) ?_;clear hK K;try simp only[lX]
       refine Late.done (by kernel_rfl) ?_ _;have JF:Kp (fun b=>b=w.heap.size) wr ((((wr.setCell ⟨w.heap.size,0,none⟩ (.slice n1 (dY s j).1.length n2)).setCell ⟨w.heap.size,1,none⟩ (.slice r1 (dM n foot dW j3).1.1.length r2)).setCell ⟨w.heap.size,2,none⟩ (.slice g1 (dM n foot dW j3).1.2.length g2)).drew):=(((bI _ _ _ _).trans (bI _ _ _ _)).trans (bI _ _ _ _)).drew;have HB:Hid (bK ((((wr.setCell ⟨w.heap.size,0,none⟩ (.slice n1 (dY s j).1.length n2)).setCell ⟨w.heap.size,1,none⟩ (.slice r1 (dM n foot dW j3).1.1.length r2)).setCell ⟨w.heap.size,2,none⟩ (.slice g1 (dM n foot dW j3).1.2.length g2)).drew) w.heap.size [.slice n1 (dY s j).1.length n2,.slice r1 (dM n foot dW j3).1.1.length r2,.slice g1 (dM n foot dW j3).1.2.length g2] 179):=(((HR5.out.set 0 _).set 1 _).set 2 _).kept (Kp.refl (fun _=>False) _).drew id;have UZ:=hide (HF5.out.aside w.heap.size hk5 (aK _) JF);clear hS0 Zr Zt Zu r0f r1f r2f v0 v1 v2 p0 p1 nE JF sQ
       go_wp2_with fail
       refine bodyPost_ret (Cc _ _ _ _ _ _ (.bool cz) rfl rfl HB.out) rfl ?_;have Dv:Pl.zl s foot=cz:=by rw[AL.out,HCZ.out];rfl
       exact Gl.mk k3 F Q _ _ _ bJ _ (by rw[Dv]) (by rw[Zi.out,Px.out];exact UZ.out))
section
open Pl
def f_ (c:Int)(n:Nat):Nat:=((if c<0 then -(c+1)else c)%(n:Int)).toNat
theorem jo (c:Int)(n:Nat)(h:0<n):f_ c n<n:=by
 unfold f_;have h1:=Int.emod_nonneg (if c<0 then -(c+1)else c) (show(n:Int)≠0 from af);have h2:=Int.emod_lt_of_pos (if c<0 then -(c+1)else c) (show(0:Int)<n from af);omega
end
theorem iI (u:World)(c:Int)(n:Nat)(h0:-9223372036854775808≤c)(h1:c≤9223372036854775807)(hn:1≤n)(hn2:n≤9000000000000000000):
 Calls Tryz.prog 33 #[.int .i64 c,.int .i64 (n:Int)] u fun e u'=>e=.returned (.int .i64 (f_ c n:Nat))∧u'=u:=by
 have hne:¬(n:Int)=0:=af;go_enter Tryz.func33,Tryz.ntmps33;by_cases hc:c<0
 ·have e1:Hid (-((c+1).tmod (n:Int))=(f_ c n:Nat)):=by
   show _=_;rw[←Int.neg_tmod];unfold f_;rw[if_pos hc,Int.tmod_eq_emod_of_nonneg af];have:=Int.emod_nonneg (-(c+1)) hne;omega
  go_wp2;go_ret;exact⟨by rw[←e1.out];rfl,rfl⟩
 ·have e1:Hid (c%(n:Int)=(f_ c n:Nat)):=by
   show _=_;unfold f_;rw[if_neg hc];have:=Int.emod_nonneg c hne;omega
  go_wp2;go_ret;exact⟨by rw[←e1.out];rfl,rfl⟩
abbrev Ym (X Y:Nat)(file:ByteArray):Value:=.agg #[PtrTo X 0,PtrTo Y 0,.string file]
abbrev ZG (a b c:Nat):Value:=.agg #[.int .i64 (a:Int),.int .i64 (b:Int),.int .i64 (c:Int)]
inductive w_ (w w':World)(e:Ending)(L:List (Nat×Nat×Nat))(a:Int):Prop
 |none (h:L=[]) (he:e=.returned (.tuple #[ZG 0 0 0,.bool false])) (x:Ext w w'):w_ w w' e L a
 |some (t:Nat×Nat×Nat) (h:t∈L) (he:e=.returned (.tuple #[ZG t.1 t.2.1 t.2.2,.bool true])) (x:Ext w w'):w_ w w' e L a
theorem JQ (tm:Array Value)(w:World)(R:Nat)(x y z v5:Value)(h4:tm.getD 4 undef=.pointer (some ⟨R,0,none⟩))(h5:tm.getD 5 undef=v5)(hB:bK w R [x,y,z] 72):(results Tryz.f65 tm).run Tryz.prog w=.ok (.tuple #[.agg #[x,y,z],v5]) w:=by
 have c0:=hB.cell 0;have c1:=hB.cell 1;have c2:=hB.cell 2;simp only[au]at c0 c1 c2;rw[Array.getD_eq_getD_getElem?]at h4 h5;simp[results,Tryz.results65,go_sem,h4,h5,c0,c1,c2]
theorem Sj (col:bU)(w:World)(X Y:Nat)(file:ByteArray)(a:Int)(r:Pl.cO)(h:I5 col w Y r)(hm:r.made≤100000000000000)(hpl:r.pieces.length≤1000)(hlen:∀p∈r.pieces,p.length≤1000000∧p.got.length≤p.length∧p.place≤1000000)(h0:-9223372036854775808≤a)(h1:a≤9223372036854775807)(hL:(Pl.jg r).length≤1000):
 Calls Tryz.prog 65 #[Ym X Y file,.int .i64 a] w fun e w'=>w_ w w' e (Pl.jg r) a:=by
 have HYA:Hid (∀u,Ext w u→Calls Tryz.prog 34 #[PtrTo Y 0] u fun e w'=>∃v,e=.returned v∧Own w' 3 v (Pl.jg r).length ((Pl.jg r).flatMap jI)∧Ext u w'∧∀g,v.ownBlock=some g→u.heap.size≤g):=fun u hu=>Fx col u Y r (h.kept hu (fun _ f=>f.elim)) hm hpl hlen
 clear h hm hpl hlen;generalize Pl.jg r=L at*;go_enter Tryz.func65,Tryz.ntmps65
 go_upto_region 1 with fail
 have x1:Ext w ((w.alloc (.cells #[PtrTo X 0,PtrTo Y 0,.string file] 85)).alloc (.cells #[.int .i64 0,.int .i64 0,.int .i64 0] 72)):=(ax.alloc _).alloc _;have bT:bK ((w.alloc (.cells #[PtrTo X 0,PtrTo Y 0,.string file] 85)).alloc (.cells #[.int .i64 0,.int .i64 0,.int .i64 0] 72)) w.heap.size [PtrTo X 0,PtrTo Y 0,.string file] 85:=(bK.bO w [PtrTo X 0,PtrTo Y 0,.string file] _).kept ((Kp.refl (fun _=>False) _).alloc _) id;have bR:=bK.bO (w.alloc (.cells #[PtrTo X 0,PtrTo Y 0,.string file] 85)) [.int .i64 0,.int .i64 0,.int .i64 0] 72;rw[show(w.alloc (.cells #[PtrTo X 0,PtrTo Y 0,.string file] 85)).heap.size=w.heap.size+1 from aj]at bR;generalize(w.alloc (.cells #[PtrTo X 0,PtrTo Y 0,.string file] 85)).alloc (.cells #[.int .i64 0,.int .i64 0,.int .i64 0] 72)=W1 at*;have t1:=bT.cell 1;simp only[au]at t1
 go_upto_region 2 with(go_at_call 34;refine((bH HYA) W1 x1).mono ?_;rintro e W2 ⟨v,rfl,o2,x2,n2⟩;obtain⟨va,vc,rfl,YS⟩:=o2.shape)
 have yE:=bR.kept x2 id;by_cases hl0:L.length=0
 ·have hz:((L.length:Int)==0)=true:=by simp[hl0]
  have hLe:L=[]:=aT hl0;have r0:=yE.cell 0;have r1:=yE.cell 1;have r2:=yE.cell 2;have f0:=yE.free 0;have f1:=yE.free 1;have f2:=yE.free 2;simp only[au]at r0 r1 r2;have HB:=hide (((yE.set 0 (.int .i64 0)).set 1 (.int .i64 0)).set 2 (.int .i64 0));have kS:Kp (fun b=>b=w.heap.size+1) W2 (((W2.setCell ⟨w.heap.size+1,0,none⟩ (.int .i64 0)).setCell ⟨w.heap.size+1,1,none⟩ (.int .i64 0)).setCell ⟨w.heap.size+1,2,none⟩ (.int .i64 0)):=((bI _ _ _ _).trans (bI _ _ _ _)).trans (bI _ _ _ _);have HX:=hide ((x1.trans x2).then kS (fun i hi e=>af));have Dy:=hide hLe;clear kS hLe hl0
  go_wp2_with fail
  refine bodyPost_ret (JQ _ _ _ _ _ _ (.bool false) rfl rfl HB.out) rfl ?_;exact w_.none Dy.out rfl HX.out
 ·have hz:((L.length:Int)==0)=false:=by
   have:¬(L.length:Int)=0:=af;simpa using this
  have hpk:=jo a L.length af;have jJ:=hide (fun u=>iI u a L.length h0 h1 af af);have hmem:=aJ hpk;obtain⟨g,cap,he,-,-,hc⟩:=o2.at af;cases he;have y0:=hc (f_ a L.length*3+0) af;have y1:=hc (f_ a L.length*3+1) af;have y2:=hc (f_ a L.length*3+2) af;rw[ZF L (f_ a L.length) _ hpk af]at y0 y1 y2;generalize L[f_ a L.length]=t at*;simp only[jI,I,au,Nat.add_zero]at y0 y1 y2;generalize f_ a L.length=pk at*;clear hc;have k0:(0:Int)≤(pk:Int):=af;have k1:(pk:Int)<(L.length:Int):=af;have r0:=yE.cell 0;have r1:=yE.cell 1;have r2:=yE.cell 2;have f0:=yE.free 0;have f1:=yE.free 1;have f2:=yE.free 2;simp only[au]at r0 r1 r2;have HB:=hide (((yE.set 0 (.int .i64 t.1)).set 1 (.int .i64 t.2.1)).set 2 (.int .i64 t.2.2));have kS:Kp (fun b=>b=w.heap.size+1) W2 (((W2.setCell ⟨w.heap.size+1,0,none⟩ (.int .i64 t.1)).setCell ⟨w.heap.size+1,1,none⟩ (.int .i64 t.2.1)).setCell ⟨w.heap.size+1,2,none⟩ (.int .i64 t.2.2)):=((bI _ _ _ _).trans (bI _ _ _ _)).trans (bI _ _ _ _);have HX:=hide ((x1.trans x2).then kS (fun i hi e=>af));clear kS
  go_wp2_with (go_at_call 33;refine((bH jJ) _).mono ?_;rintro e w3 ⟨rfl,hw3⟩;have hw4:=hw3.symm;subst hw4;clear hw3)
  refine bodyPost_ret (JQ _ _ _ _ _ _ (.bool true) rfl rfl HB.out) rfl ?_;exact w_.some t hmem rfl HX.out
theorem JR (s:ByteArray):Value.string s=tx (bytesOf s):=by
 cases s;simp[tx,bytesOf]
theorem Sk (w:World)(X Y:Nat)(file:ByteArray)(t1 t2 t3:Nat)(b:Int)(h0:-9223372036854775808≤b)(h1:b≤9223372036854775807)(h2:t2≤1000000)(h3:t3≤1000000)(hf:file.size≤1000000000000):
 Calls Tryz.prog 68 #[Ym X Y file,ZG t1 t2 t3,.int .i64 b] w fun e w'=>∃s:List UInt8,s.length≤t3∧e=.returned (tx s)∧Ext w w':=by
 have x1:Ext w ((w.alloc (.cells #[PtrTo X 0,PtrTo Y 0,.string file] 85)).alloc (.cells #[.int .i64 t1,.int .i64 t2,.int .i64 t3] 72)):=(ax.alloc _).alloc _;have bT:bK ((w.alloc (.cells #[PtrTo X 0,PtrTo Y 0,.string file] 85)).alloc (.cells #[.int .i64 t1,.int .i64 t2,.int .i64 t3] 72)) w.heap.size [PtrTo X 0,PtrTo Y 0,.string file] 85:=(bK.bO w [PtrTo X 0,PtrTo Y 0,.string file] _).kept ((Kp.refl (fun _=>False) _).alloc _) id;have bR:=bK.bO (w.alloc (.cells #[PtrTo X 0,PtrTo Y 0,.string file] 85)) [.int .i64 t1,.int .i64 t2,.int .i64 t3] 72;rw[show(w.alloc (.cells #[PtrTo X 0,PtrTo Y 0,.string file] 85)).heap.size=w.heap.size+1 from aj]at bR;go_enter Tryz.func68,Tryz.ntmps68
 go_upto_region 1 with fail
 generalize(w.alloc (.cells #[PtrTo X 0,PtrTo Y 0,.string file] 85)).alloc (.cells #[.int .i64 t1,.int .i64 t2,.int .i64 t3] 72)=W1 at*;have c2:=bT.cell 2;have r1:=bR.cell 1;have r2:=bR.cell 2;simp only[au]at c2 r1 r2;have En:=hide (fun u=>iI u b 3 h0 h1 af af);have hq:-9223372036854775808≤b.tdiv 3∧b.tdiv 3≤9223372036854775807:=by
  by_cases hb0:0≤b
  ·rw[Int.tdiv_eq_ediv_of_nonneg hb0];omega
  ·have e:b.tdiv 3=-((-b).tdiv 3):=by rw[Int.neg_tdiv];omega
   rw[e,Int.tdiv_eq_ediv_of_nonneg af];omega
 have yx:Hid (∀u,Calls Tryz.prog 33 #[.int .i64 (b.tdiv 3),.int .i64 ((t3:Int)+1)] u fun e u'=>e=.returned (.int .i64 (f_ (b.tdiv 3) (t3+1):Nat))∧u'=u):=fun u=>by
  have:=iI u (b.tdiv 3) (t3+1) hq.1 hq.2 af af;rw[Int.natCast_add]at this;exact this
 have hpl:=jo (b.tdiv 3) (t3+1) af;by_cases hpz:f_ b 3=0
 ·have hz:(((f_ b 3:Nat):Int)==0)=true:=by simp[hpz]
  go_upto_region 3 with(go_at_call 33;refine((bH En) _).mono ?_;rintro e w3 ⟨rfl,hw3⟩;have hw4:=hw3.symm;subst hw4;clear hw3)
  go_upto_region 4 with(go_at_call 33;refine((bH yx) _).mono ?_;rintro e w3 ⟨rfl,hw3⟩;have hw4:=hw3.symm;subst hw4;clear hw3)
  generalize f_ (b.tdiv 3) (t3+1)=nn at*;have hnn:nn≤t3:=af
  go_wp2_with fail
  go_loop [8,9] (fun sv i=>∃(k:Nat)(s:ByteArray),k≤nn∧i=.int .i64 ((t2:Int)+(k:Int))∧sv=.string s∧Hid (s.size=k)) (fun _ i=>t2+nn-(intOf i).toNat)
  case atStart=>exact⟨0,⟨#[]⟩,aM _,aj,rfl,by show _=_;rfl⟩
  case round=>
   obtain⟨k,s,hk,rfl,rfl,HS⟩:=hrel;by_cases hkn:k<nn
   ·have k1:decide ((t2:Int)+(k:Int)<(t2:Int)+(nn:Int))=true:=aH af;have hsz:=HS.out;by_cases hif:t2+k<file.size
    ·have k2:decide ((t2:Int)+(k:Int)<(file.size:Int))=true:=aH af;have hxs:(file.extract (t2+k) (t2+k+1)).size=1:=by rw[ByteArray.size_extract];omega
     have hsm:(9223372036854775807<s.size+(min (t2+k+1) file.size-(t2+k)))=False:=eq_false af;have j1:((t2:Int)+(k:Int)).toNat=t2+k:=af;have j2:((t2:Int)+(k:Int)+1).toNat=t2+k+1:=af;have j3:(0:Int)≤(t2:Int)+(k:Int):=af;have j4:(t2:Int)+(k:Int)≤(t2:Int)+(k:Int)+1:=af;have j5:(t2:Int)+(k:Int)+1≤(file.size:Int):=af;have NS:Hid ((s++file.extract (t2+k) (t2+k+1)).size=k+1):=by show _=_;rw[ByteArray.size_append,hxs,hsz]
     clear hxs hsz
     go_wp2_with fail
     exact⟨⟨k+1,_,af,by go_num,rfl,NS⟩,by simp[intOf];omega⟩
    ·have k2:decide ((t2:Int)+(k:Int)<(file.size:Int))=false:=aG af;have NS:Hid ((s++(⟨#[63]⟩:ByteArray)).size=k+1):=by show _=_;rw[ByteArray.size_append,hsz];rfl
     go_wp2_with fail
     exact⟨⟨k+1,_,af,by go_num,rfl,NS⟩,by simp[intOf];omega⟩
   ·have k1:decide ((t2:Int)+(k:Int)<(t2:Int)+(nn:Int))=false:=aG af
    go_wp2_with fail
    go_ret;exact⟨bytesOf s,by rw[gX,HS.out];omega,by rw[←JR];rfl,x1⟩
 ·have hz:(((f_ b 3:Nat):Int)==0)=false:=by
   have:¬((f_ b 3:Nat):Int)=0:=af;simpa using this
  go_upto_region 4 with(go_at_call 33;refine((bH En) _).mono ?_;rintro e w3 ⟨rfl,hw3⟩;have hw4:=hw3.symm;subst hw4;clear hw3)
  clear yx hpl;obtain⟨nn,rfl⟩:∃nn,nn=t3:=⟨_,rfl⟩
  have hnn:nn≤nn:=aK _
  go_wp2_with fail
  go_loop [8,9] (fun sv i=>∃(k:Nat)(s:ByteArray),k≤nn∧i=.int .i64 ((t2:Int)+(k:Int))∧sv=.string s∧Hid (s.size=k)) (fun _ i=>t2+nn-(intOf i).toNat)
  case atStart=>exact⟨0,⟨#[]⟩,aM _,aj,rfl,by show _=_;rfl⟩
  case round=>
   obtain⟨k,s,hk,rfl,rfl,HS⟩:=hrel;by_cases hkn:k<nn
   ·have k1:decide ((t2:Int)+(k:Int)<(t2:Int)+(nn:Int))=true:=aH af;have hsz:=HS.out;by_cases hif:t2+k<file.size
    ·have k2:decide ((t2:Int)+(k:Int)<(file.size:Int))=true:=aH af;have hxs:(file.extract (t2+k) (t2+k+1)).size=1:=by rw[ByteArray.size_extract];omega
     have hsm:(9223372036854775807<s.size+(min (t2+k+1) file.size-(t2+k)))=False:=eq_false af;have j1:((t2:Int)+(k:Int)).toNat=t2+k:=af;have j2:((t2:Int)+(k:Int)+1).toNat=t2+k+1:=af;have j3:(0:Int)≤(t2:Int)+(k:Int):=af;have j4:(t2:Int)+(k:Int)≤(t2:Int)+(k:Int)+1:=af;have j5:(t2:Int)+(k:Int)+1≤(file.size:Int):=af;have NS:Hid ((s++file.extract (t2+k) (t2+k+1)).size=k+1):=by show _=_;rw[ByteArray.size_append,hxs,hsz]
     clear hxs hsz
     go_wp2_with fail
     exact⟨⟨k+1,_,af,by go_num,rfl,NS⟩,by simp[intOf];omega⟩
    ·have k2:decide ((t2:Int)+(k:Int)<(file.size:Int))=false:=aG af;have NS:Hid ((s++(⟨#[63]⟩:ByteArray)).size=k+1):=by show _=_;rw[ByteArray.size_append,hsz];rfl
     go_wp2_with fail
     exact⟨⟨k+1,_,af,by go_num,rfl,NS⟩,by simp[intOf];omega⟩
   ·have k1:decide ((t2:Int)+(k:Int)<(t2:Int)+(nn:Int))=false:=aG af
    go_wp2_with fail
    go_ret;exact⟨bytesOf s,by rw[gX,HS.out];omega,by rw[←JR];rfl,x1⟩
theorem Ql (x:Int)(hx:0≤x)(hx2:x<256):∀(u:World)(a:Addr),u.cell? a=some (.int .u8 x)→(convert 76 9 (.slice (some a) 1 1)).run Tryz.prog u=.ok (.string ⟨[UInt8.ofNat x.toNat].toArray⟩) u:=by
 intro u a h;have hb:(UInt8.ofNat x.toNat).toNat=x.toNat:=by rw[UInt8.toNat_ofNat',Nat.mod_eq_of_lt af]
 refine run_convert_bytes_back (P:=Tryz.prog) u _ _ 5 a 1 [UInt8.ofNat x.toNat] Tryz.underlying76 Tryz.underlying5 Tryz.underlying9 (fun j hj=>?_);have hj0:j=0:=by simp at hj;omega
 subst hj0;rw[show a.add 0=a by simp[Addr.add],h];simp only[List.getElem_cons_zero];rw[hb,Int.toNat_of_nonneg hx]
theorem aaS (a b:Nat)(ha:a<256)(hb:b<256):bits .xor .u8 (a:Int) (b:Int)=((a^^^b:Nat):Int):=by
 have hx:a^^^b<2^8:=Nat.xor_lt_two_pow af af;have h1:(BitVec.ofInt 8 (a:Int)).toNat=a:=by
  rw[BitVec.ofInt_natCast,BitVec.toNat_ofNat];exact Nat.mod_eq_of_lt af
 have h2:(BitVec.ofInt 8 (b:Int)).toNat=b:=by
  rw[BitVec.ofInt_natCast,BitVec.toNat_ofNat];exact Nat.mod_eq_of_lt af
 show IntKind.u8.wrap ((BitVec.ofInt 8 (a:Int)^^^BitVec.ofInt 8 (b:Int)).toNat:Int)=_;rw[BitVec.toNat_xor,h1,h2];simp only[IntKind.wrap,IntKind.bits,IntKind.signed];simp;omega
theorem G5 (c:UInt8)(pb:Nat)(h:pb<255):∃xb:Nat,bits .xor .u8 (c.toNat:Int) (IntKind.u8.wrap (IntKind.i64.wrap (1+(pb:Int))))=(xb:Int)∧xb<256∧c≠UInt8.ofNat xb:=by
 have hc:=c.toNat_lt;have e:IntKind.u8.wrap (IntKind.i64.wrap (1+(pb:Int)))=((1+pb:Nat):Int):=by simp[IntKind.wrap,IntKind.bits,IntKind.signed];omega
 have hx:c.toNat^^^(1+pb)<2^8:=Nat.xor_lt_two_pow af af;refine⟨c.toNat^^^(1+pb),by rw[e];exact aaS _ _ af af,af,fun h0=>?_⟩;have h1:=congrArg UInt8.toNat h0;rw[UInt8.toNat_ofNat',Nat.mod_eq_of_lt af]at h1;have h2:c.toNat^^^c.toNat=c.toNat^^^(c.toNat^^^(1+pb)):=by rw[←h1]
 rw[Nat.xor_self,←Nat.xor_assoc,Nat.xor_self,Nat.zero_xor]at h2;omega
theorem J_ (S:List UInt8)(k:Nat)(b:UInt8)(h:k<S.length):(ByteArray.mk S.toArray).extract 0 k++⟨#[b]⟩++(ByteArray.mk S.toArray).extract (k+1) S.length=⟨(S.set k b).toArray⟩:=by
 apply ByteArray.ext;rw[ByteArray.data_append,ByteArray.data_append,ByteArray.data_extract,ByteArray.data_extract];apply Array.ext';simp only[Array.toList_append,Array.toList_extract,List.extract_eq_take_drop,List.drop_zero,Nat.sub_zero];rw[List.set_eq_take_append_cons_drop,if_pos h];rw[List.take_of_length_le (l:=S.drop (k+1)) (by rw[bq];omega)];simp
theorem V_ (ns:List (List UInt8))(gs:List (List (List Int))):(Pl.write ns gs).1.length≤4000:=by
 unfold Pl.write Pl.sealed;split
 ·split<;>simp<;>omega
 ·simp
theorem Qm (a:Int)(n:Nat)(hn:1≤n)(h0:0≤a)(h1:a≤9223372036854775807):0≤a.tdiv (n:Int)∧a.tdiv (n:Int)≤9223372036854775807:=by
 rw[Int.tdiv_eq_ediv_of_nonneg h0];refine⟨Int.ediv_nonneg h0 af,?_⟩;exact Int.le_trans (Int.ediv_le_self _ h0) h1
theorem Yx (B0:Nat)(w:World)(nv gv:Value)(ss:List ByteArray)(gs:List (List (List Int)))(raw:List UInt8)(tn a b c d:Int)(hn:h_ B0 w nv ss)(hg:jy B0 w gv gs)(wo:Option Addr)(wl wc:Nat)(hr:raw.length≤100000000)(ht0:-9223372036854775808≤tn)(ht1:tn≤9223372036854775807):
 Calls Tryz.prog 15 #[.agg #[nv,gv,.string ⟨raw.toArray⟩,.int .i64 tn,.slice wo wl wc,.int .i64 a,.int .i64 b,.int .i64 c,.int .i64 d]] w fun e w'=>∃f:List UInt8,f.length≤100000000∧e=.returned (tx f)∧Ext w w':=by
 have HW:Hid (∀u,Ext w u→Calls Tryz.prog 46 #[.agg #[nv,gv]] u fun e w'=>e=.returned (.tuple #[T (Pl.write (ss.map bytesOf) gs).1,.int .i64 (Pl.write (ss.map bytesOf) gs).2])∧Ext u w'):=fun u hu=>Cx B0 u nv gv ss gs (hn.kept hu (fun _ f=>f.elim)) (hg.kept hu (fun _ f=>f.elim))
 obtain⟨an,cn,rfl,-,-,-⟩:=h_.open hn;obtain⟨ag,cg,rfl,-,-,-⟩:=hg.open;clear hn hg;have hwl:=V_ (ss.map bytesOf) gs;generalize Pl.write (ss.map bytesOf) gs=wr0 at*;obtain⟨S0,er⟩:=wr0;have x1:Ext w (w.alloc (.cells #[.slice an ss.length cn,.slice ag gs.length cg,.string ⟨raw.toArray⟩,.int .i64 tn,.slice wo wl wc,.int .i64 a,.int .i64 b,.int .i64 c,.int .i64 d] 44)):=ax.alloc _;have bS:=bK.bO w [.slice an ss.length cn,.slice ag gs.length cg,.string ⟨raw.toArray⟩,.int .i64 tn,.slice wo wl wc,.int .i64 a,.int .i64 b,.int .i64 c,.int .i64 d] 44;go_enter Tryz.func15,Tryz.ntmps15
 go_upto_region 1 with fail
 generalize w.alloc (.cells #[.slice an ss.length cn,.slice ag gs.length cg,.string ⟨raw.toArray⟩,.int .i64 tn,.slice wo wl wc,.int .i64 a,.int .i64 b,.int .i64 c,.int .i64 d] 44)=W1 at*;have c0:=bS.cell 0;have c1:=bS.cell 1;simp only[au]at c0 c1
 go_upto_region 2 with(go_at_call 46;refine((bH HW) W1 x1).mono ?_;rintro e W2 ⟨rfl,x2⟩)
 have bS2:=bS.kept x2 id;have c2:=bS2.cell 2;have c3:=bS2.cell 3;simp only[au]at c2 c3;have xw:Ext w W2:=x1.trans x2;clear c0 c1 HW;have key:∃S:List UInt8,S.length≤100000000∧((er=0∧S=S0)∨(er≠0∧S=raw)):=by
  by_cases he:er=0
  ·exact⟨S0,by have:S0.length≤4000:=hwl;omega,.inl ⟨he,rfl⟩⟩
  ·exact⟨raw,hr,.inr ⟨he,rfl⟩⟩
 obtain⟨S,hS,hcs⟩:=key;rcases hcs with⟨rfl,rfl⟩|⟨he,rfl⟩
 all_goals
  first|(have hz:(er==0)=false:=by simpa using he)|(have hz:((0:Int)==0)=true:=rfl)
  go_upto_region 4 with fail
  by_cases htn:0≤tn∧0<S.length
  ·obtain⟨q1,q2⟩:=htn;have m1:decide ((0:Int)≤tn)=true:=aH q1;have m2:decide ((0:Int)<(S.length:Int))=true:=aH af;have m3:decide (0<S.length)=true:=aH q2;have hne:¬(S.length:Int)=0:=af;have hpk:=jo tn S.length q2;have HPW:=hide (fun u=>iI u tn S.length ht0 ht1 af af);generalize f_ tn S.length=pk at*
   go_upto_region 6 with(go_at_call 33;refine((bH HPW) _).mono ?_;rintro r w2x ⟨rfl,hwx⟩;rw[hwx];clear hwx)
   have hdv:=Qm tn S.length af q1 ht1;have hpb:=jo (tn.tdiv (S.length:Int)) 255 af;have UD:=hide (fun u=>iI u (tn.tdiv (S.length:Int)) 255 af hdv.2 af af);generalize f_ (tn.tdiv (S.length:Int)) 255=pb at*;have hSe:(S=[])=False:=eq_false (fun e=>by rw[e]at q2;simp at q2);have hdw:IntKind.i64.wrap (tn.tdiv (S.length:Int))=tn.tdiv (S.length:Int):=by simp[IntKind.wrap,IntKind.bits,IntKind.signed];omega
   have k0:(0:Int)≤(pk:Int):=af;have k1:(pk:Int)≤(S.length:Int):=af;have k2:(pk:Int)<(S.length:Int):=af;have k3:(pk:Int)+1≤(S.length:Int):=af;have k4:(0:Int)≤(pk:Int)+1:=af;have k5:IntKind.i64.wrap ((pk:Int)+1)=(pk:Int)+1:=by simp[IntKind.wrap,IntKind.bits,IntKind.signed];omega
   have hx:∃xb:Nat,bits .xor .u8 (((ByteArray.mk S.toArray)[pk]'(by show pk<S.toArray.size;simpa using hpk)).toNat:Int) (IntKind.u8.wrap (IntKind.i64.wrap (1+(pb:Int))))=(xb:Int)∧xb<256∧S[pk]≠UInt8.ofNat xb:=G5 (S[pk]) pb hpb;obtain⟨xb,hxb,hx2,-⟩:=hx;have hcv:=Ql (xb:Int) af af;rw[Int.toNat_natCast]at hcv;have hS0:W2.drew.cell? ⟨w.heap.size,3,none⟩=some (.int .i64 tn):=c3;refine bZ (n:=23) (fun u=>u.cell? ⟨w.heap.size,3,none⟩=some (.int .i64 tn)) (by kernel_rfl) ?_;generalize hWd:W2.drew=Wd at hS0⊢;have xd:Ext W2 Wd:=by rw[←hWd];exact ax.drew
   clear hWd;refine Late.t 0 [23] rfl hS0 ?_;refine Late.t 1 [23] rfl hS0 ?_;refine Late.t 2 [23] rfl hS0 ?_;refine Late.t 3 [23] rfl hS0 ?_;refine Late.t 4 [23] rfl hS0 ?_;refine Late.t 5 [23] rfl hS0 ?_;refine Late.t 6 [23] rfl hS0 ?_;refine Late.t 7 [23] rfl hS0 ?_;refine Late.t 8 [23] rfl hS0 ?_;refine Late.t 9 [23] rfl hS0 ?_;refine Late.t 10 [23] rfl hS0 ?_;refine Late.t 18 [23] rfl hS0 ?_;refine Late.t 19 [23] rfl hS0 ?_;refine Late.t 20 [23] rfl hS0 ?_;refine Late.t 21 [23] rfl hS0 ?_;refine Late.o 11 rfl (fun K hK=>?_);refine fe rfl 33 #[.int .i64 (tn.tdiv (S.length:Int)),.int .i64 255] (by go_simp) ?_;refine((bH UD) _).mono ?_;rintro r w6 ⟨rfl,GZ⟩;rw[GZ];clear GZ;refine⟨_,rfl,hK _ _ (fun _=>hS0) ?_⟩;clear hK K;try simp only[lX]
   refine Late.t 12 [23] rfl hS0 ?_;refine Late.t 13 [23] rfl hS0 ?_;refine Late.t 14 [23] rfl hS0 ?_;try rw[hxb]
   have xa:Ext Wd (Wd.alloc (.cells #[.int .u8 (xb:Int)] 5)):=ax.alloc _;have hS1:(Wd.alloc (.cells #[.int .u8 (xb:Int)] 5)).cell? ⟨w.heap.size,3,none⟩=some (.int .i64 tn):=xa.cell hS0 id;refine Late.o 15 rfl (fun K hK=>?_);go_simp;refine hK _ _ (fun _=>hS1) ?_;clear hK K;try simp only[lX]
   refine Late.o 16 rfl (fun K hK=>?_);go_simp;refine hK _ _ (fun _=>hS1) ?_;clear hK K;try simp only[lX]
   have k6:¬9223372036854775807<min pk S.length+1:=af;refine Late.t 17 [23] rfl hS1 ?_;clear k6;have k7:¬9223372036854775807<min pk S.length+1+(S.length-(pk+1)):=af;refine Late.t 22 [23] rfl hS1 ?_;clear k7;refine Late.o 23 rfl (fun K hK=>?_);go_simp;refine hK _ _ (fun h=>absurd rfl h) ?_;clear hK K;try simp only[lX]
   refine Late.done (by kernel_rfl) ?_ _;have Iw:(ByteArray.mk S.toArray).extract 0 pk++⟨#[UInt8.ofNat xb]⟩++(ByteArray.mk S.toArray).extract (pk+1) S.length=⟨(S.set pk (UInt8.ofNat xb)).toArray⟩:=J_ S pk (UInt8.ofNat xb) hpk;rw[Iw];have xe:=(xw.trans xd).trans xa;clear Iw hcv hxb
   go_wp2_with fail
   go_ret;exact⟨S.set pk (UInt8.ofNat xb),by rw[List.length_set];exact hS,rfl,xe⟩
  ·by_cases q1:0≤tn
   ·have q2:S=[]:=aT af;have m1:decide ((0:Int)≤tn)=true:=aH q1;have m2:decide ((0:Int)<(S.length:Int))=false:=aG (by rw[q2];simp);have m3:decide (0<S.length)=false:=aG (by rw[q2];simp);clear q2 htn
    go_wp2_with fail
    go_ret;exact⟨S,hS,rfl,xw⟩
   ·have m1:decide ((0:Int)≤tn)=false:=aG q1
    go_wp2_with fail
    go_ret;exact⟨S,hS,rfl,xw⟩
end Go.Proofs.YthicgffppmbamaaGreat
