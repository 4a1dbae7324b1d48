import Derived.Test.YthicgffppmbamaaGreatP4
import Derived.Test.YthicgffppmbamaaGreatP5
import Derived.Test.YthicgffppmbamaaGreatP6
set_option maxRecDepth 100000
set_option maxHeartbeats 16000000
namespace Go.Proofs.YthicgffppmbamaaGreat
open Go.RowKit
namespace Pl
theorem Rk (l:List cK)(x:cK)(hs:l.Pairwise (fun a b=>a.page.place≤b.page.place)):∃A B,l=A++B∧nA l x=A++[x]++B∧(∀y∈A,y.page.place≤x.page.place)∧∀y∈B,x.page.place<y.page.place:=by
 have e:l=(l.reverse.dropWhile (fun y=>decide (x.page.place<y.page.place))).reverse++(l.reverse.takeWhile (fun y=>decide (x.page.place<y.page.place))).reverse:=by
  rw[←List.reverse_append,List.takeWhile_append_dropWhile,List.reverse_reverse]
 refine⟨_,_,e,rfl,fun y hy=>?_,fun y hy=>?_⟩
 ·rw[List.mem_reverse]at hy;have hs':(l.reverse.dropWhile (fun y=>decide (x.page.place<y.page.place))).Pairwise (fun a b=>b.page.place≤a.page.place):=by
   refine List.Pairwise.sublist (List.dropWhile_sublist _) ?_;rw[List.pairwise_reverse];exact hs
  have hd:∀z,(l.reverse.dropWhile (fun y=>decide (x.page.place<y.page.place))).head?=some z→z.page.place≤x.page.place:=fun z hz=>by
   have:=List.head?_dropWhile_not (fun y:cK=>decide (x.page.place<y.page.place)) l.reverse;rw[hz]at this;simpa using this
  cases hh:l.reverse.dropWhile (fun y=>decide (x.page.place<y.page.place))with
  |nil=>rw[hh]at hy;simp at hy
  |cons z r=>
   rw[hh]at hy hs' hd;have hz:=hd z rfl;rcases List.mem_cons.1 hy with rfl|hy
   ·exact hz
   ·exact aO ((List.pairwise_cons.1 hs').1 y hy) hz
 ·rw[List.mem_reverse]at hy;have hall:=List.all_takeWhile (p:=fun y:cK=>decide (x.page.place<y.page.place)) (l:=l.reverse);rw[List.all_eq_true]at hall;simpa using hall y hy
theorem OL (l:List cK)(x:cK)(hs:l.Pairwise (fun a b=>a.page.place≤b.page.place)):(nA l x).Pairwise (fun a b=>a.page.place≤b.page.place)∧∀y∈nA l x,y∈l∨y=x:=by
 obtain⟨A,B,e,e2,hA,hB⟩:=Rk l x hs;rw[e]at hs;obtain⟨hsA,hsB,DI⟩:=List.pairwise_append.1 hs;rw[e2];refine⟨?_,fun y hy=>?_⟩
 ·rw[aW];refine List.pairwise_append.2 ⟨hsA,?_,fun a ha b hb=>?_⟩
  ·rw[List.singleton_append,List.pairwise_cons];exact⟨fun b hb=>Nat.le_of_lt (hB b hb),hsB⟩
  ·rw[List.singleton_append]at hb;rcases List.mem_cons.1 hb with rfl|hb
   ·exact hA a ha
   ·exact DI a ha b hb
 ·rw[e];simp only[aW,List.singleton_append,aI,List.mem_cons]at hy⊢;rcases hy with h|h|h
  ·exact .inl (.inl h)
  ·exact .inr h
  ·exact .inl (.inr h)
theorem wG (l:List cK):(iD l).Pairwise (fun a b=>a.page.place≤b.page.place)∧∀y∈iD l,y∈l:=by
 have h:∀(l acc:List cK),acc.Pairwise (fun a b=>a.page.place≤b.page.place)→(l.foldl nA acc).Pairwise (fun a b=>a.page.place≤b.page.place)∧∀y∈l.foldl nA acc,y∈acc∨y∈l:=by
  intro l;induction l with
  |nil=>intro acc h;exact⟨h,fun y hy=>.inl hy⟩
  |cons a l ih=>
   intro acc hs;obtain⟨h1,h2⟩:=OL acc a hs;obtain⟨h3,h4⟩:=ih (nA acc a) h1;refine⟨h3,fun y hy=>?_⟩;rcases h4 y hy with h|h
   ·rcases h2 y h with h|h
    ·exact .inl h
    ·exact .inr (by simp[h])
   ·exact .inr (by simp[h])
 obtain⟨h1,h2⟩:=h l [] List.Pairwise.nil;exact⟨h1,fun y hy=>(h2 y hy).elim (fun h=>by simp at h) id⟩
def Ig (M:Nat)(gr:eu):Prop:=∀p∈gr.pages,p.place+p.length≤M
theorem Kz (M g:Nat)(gr:eu)(bD:List Nat)(h:Ig M gr):Sorted M (iD (dP g gr bD)):=by
 obtain⟨h1,h2⟩:=wG (dP g gr bD);refine⟨fun x hx=>?_,h1⟩;have:=h2 x hx;unfold dP at this;rw[List.mem_map]at this;obtain⟨i,_,rfl⟩:=this;show(gr.pages.getD (bD.getD i 0) default).place+(gr.pages.getD (bD.getD i 0) default).length≤M;rw[aC];cases hq:gr.pages[bD.getD i 0]? with
 |none=>show 0+0≤M;omega
 |some p=>exact h p (List.mem_of_getElem? hq)
end Pl
theorem Rl (w:World)(g cap:Nat)(pages:List Pl.cK)(h0:0<pages.length)(hl:pages.length≤10)(hO:Own w 6 (.slice (some ⟨g,0,none⟩) pages.length cap) pages.length (pages.flatMap b_)):
 Calls Tryz.prog 174 #[.slice (some ⟨g,0,none⟩) pages.length cap,.int .i64 pages.length,F 167] w fun e w'=>e=.returned (.tuple #[])∧Own w' 6 (.slice (some ⟨g,0,none⟩) pages.length cap) pages.length ((Pl.iD pages).flatMap b_)∧Kp (fun k=>k=g) w w':=by
 have HC:=hide (Ie w g cap pages h0 af hO);go_enter Tryz.func174,Tryz.ntmps174
 go_wp2_with fail
 go_loopw [7,8] (fun a b wr=>a=.int .i64 0∧b=.int .i64 20∧wr=w) (fun _ _ _=>0)
 case atStart=>exact⟨rfl,rfl,rfl⟩
 case round=>
  obtain⟨rfl,rfl,rfl⟩:=hrel
  go_wp2_with (go_at_call 177;refine(bH HC).mono ?_;rintro e w1 ⟨rfl,o1,k1⟩)
  go_loopw [6] (fun a wr2=>a=.int .i64 20∧wr2=w1) (fun _ _=>0)
  case atStart=>exact⟨rfl,rfl⟩
  case round=>
   obtain⟨rfl,rfl⟩:=hrel
   go_wp2_with fail
   go_end0
   exact⟨rfl,o1,k1⟩
theorem Ih (w:World)(g cap:Nat)(pages:List Pl.cK)(h0:0<pages.length)(hl:pages.length≤10)(hO:Own w 6 (.slice (some ⟨g,0,none⟩) pages.length cap) pages.length (pages.flatMap b_)):
 Calls Tryz.prog 166 #[.slice (some ⟨g,0,none⟩) pages.length cap,F 167] w fun e w'=>e=.returned (.tuple #[])∧Own w' 6 (.slice (some ⟨g,0,none⟩) pages.length cap) pages.length ((Pl.iD pages).flatMap b_)∧Kp (fun k=>k=g) w w':=by
 have HC:=hide (Rl w g cap pages h0 hl hO);go_enter Tryz.func166,Tryz.ntmps166
 go_wp2_with (go_at_call 174;refine(bH HC).mono ?_;rintro e w1 ⟨rfl,o1,k1⟩)
 go_end0
 exact⟨rfl,o1,k1⟩
theorem Xu (L:List Pl.ku)(i j:Nat)(hi:i<L.length)(hj:j<3):(L.flatMap jf)[i*3+j]?=(jf L[i])[j]?:=by
 rw[show L.flatMap jf=(L.map jf).flatten from rfl];exact jB 3 (L.map jf) (fun e he=>by rw[List.mem_map]at he;obtain⟨q,_,rfl⟩:=he;rfl) i j hj (jf L[i]) (by rw[aN,ay hi];rfl)
theorem lQ (g:Nat)(gr:Pl.eu)(bD:List Nat):(Pl.dP g gr bD).length=bD.length:=by simp[Pl.dP]
theorem Rm (C D:Nat→Prop)(w:World)(g nc:Nat)(gr:Pl.eu)(pv cv:Value)(bD:List Nat)(hp:bM C false w 3 pv nc (gr.pages.flatMap jf))(SY:gr.pages.length=nc)(hc:bM D false w 1 cv bD.length (bD.map fun n:Nat=>I n))(hcl:0<bD.length)(Ii:bD.length≤10)(yo:∀c∈bD,c<nc)(_hg:g≤1000)(hnc:nc≤1000):
 Calls Tryz.prog 148 #[.int .i64 g,.agg #[I gr.rows,pv],cv] w fun e w'=>∃v,e=.returned v∧Ext w w'∧bM (fun b=>w.heap.size≤b) false w' 6 v bD.length ((Pl.iD (Pl.dP g gr bD)).flatMap b_):=by
 obtain⟨pa,pc,rfl,hpc,hp3⟩:=hp.get;obtain⟨ca,cc,rfl,hcc,hc3⟩:=hc.get;clear hp hc;have b0:=bK.bO w [I gr.rows,.slice pa nc pc] 229;have x0:Ext w (w.alloc (.cells #[I gr.rows,.slice pa nc pc] 229)):=ax.alloc _;go_enter Tryz.func148,Tryz.ntmps148
 go_wp2_with fail
 generalize w.alloc (.cells #[I gr.rows,.slice pa nc pc] 229)=W at*;have YN:w.heap.size<W.heap.size:=b0.lt;go_loopw [7,12] (fun t i wr=>∃k:Nat,i=.int .i64 k∧k≤bD.length∧Own wr 6 t k (((List.range k).map fun i=>(⟨gr.pages.getD (bD.getD i 0) default,g,i,gr.rows⟩:Pl.cK)).flatMap b_)∧(∀b,t.ownBlock=some b→W.heap.size≤b)∧Ext W wr) (fun _ i _=>bD.length-(intOf i).toNat)
 case atStart=>exact⟨0,rfl,af,by simpa using Own.nil _ _,fun b e=>by simp[Value.ownBlock]at e,Kp.refl _ _⟩
 case round=>
  obtain⟨k,rfl,hk,ho,hfr,hx⟩:=hrel;obtain⟨ta,tc,rfl,htc⟩:=ho.shape;by_cases hkl:k<bD.length
  ·obtain⟨cb,co,rfl,hcb,EO⟩:=hc3 af;have hck:=(x0.trans hx).cell ((EO k af).trans (by rw[aN,ay hkl];rfl)) id;have hcn:=yo bD[k] (aJ hkl);have HT:Hid (((List.range (k+1)).map fun i=>(⟨gr.pages.getD (bD.getD i 0) default,g,i,gr.rows⟩:Pl.cK)).flatMap b_=((List.range k).map fun i=>(⟨gr.pages.getD (bD.getD i 0) default,g,i,gr.rows⟩:Pl.cK)).flatMap b_++b_ ⟨gr.pages[bD[k]]'af,g,k,gr.rows⟩):=by
    show _=_;rw[List.range_succ,a_,List.flatMap_append];simp[ay hkl,ay (show bD[k]<gr.pages.length from af)]
   obtain⟨pb,po,rfl,hpb,ab1⟩:=hp3 af;have d:∀j,j<3→wr.cell? ⟨pb,po+(bD[k]*3+j),none⟩=(jf (gr.pages[bD[k]]'af))[j]?:=fun j hj=>by
    have e2:=(ab1 (bD[k]*3+j) af).trans (Xu gr.pages bD[k] j af hj);have:j<(jf (gr.pages[bD[k]]'af)).length:=hj;rw[ay this]at e2⊢;exact(x0.trans hx).cell e2 id
   generalize gr.pages[bD[k]]'af=fp at*;generalize bD[k]=c at*;have d0:=d 0 af;have d1:=d 1 af;have d2:=d 2 af;simp only[jf,I,au,Nat.add_zero,←Nat.add_assoc]at d0 d1 d2;have e0:wr.cell? ⟨w.heap.size,0,none⟩=some (I gr.rows):=hx.cell (b0.cell 0) id;have e1:wr.cell? ⟨w.heap.size,1,none⟩=some (.slice (some ⟨pb,po,none⟩) nc pc):=hx.cell (b0.cell 1) id;simp only[I]at e0 hck;clear d EO ab1 hc3 hp3
   go_wp2_with fail
   have hS:∀u,Kp (fun b=>W.heap.size≤b) wr u→u.cell? ⟨pb,po+c*3,none⟩=some (.int .i64 fp.place)∧u.cell? ⟨pb,po+c*3+1,none⟩=some (.int .i64 fp.length)∧u.cell? ⟨pb,po+c*3+2,none⟩=some (.int .u32 fp.sum)∧u.cell? ⟨w.heap.size,0,none⟩=some (.int .i64 gr.rows)∧u.cell? ⟨w.heap.size,1,none⟩=some (.slice (some ⟨pb,po,none⟩) nc pc):=
    fun u hu=>⟨hu.cell d0 (by simp;omega),hu.cell d1 (by simp;omega),hu.cell d2 (by simp;omega),hu.cell e0 (by simp;omega),hu.cell e1 (by simp;omega)⟩
   have HS:=hide hS;clear hS d0 d1 d2 e0 e1;have hx1:Kp (fun b=>W.heap.size≤b) wr wr.drew:=ax.drew;refine bZ (n:=13) (Kp (fun b=>W.heap.size≤b) wr) (by kernel_rfl) ?_;refine Late.h HS 0 [13] rfl hx1 ?_;refine Late.h HS 1 [13] rfl hx1 ?_;refine Late.h HS 2 [13] rfl hx1 ?_;refine Late.h HS 3 [13] rfl hx1 ?_;refine Late.h HS 4 [13] rfl hx1 ?_;refine Late.h HS 5 [13] rfl hx1 ?_;refine Late.h HS 6 [13] rfl hx1 ?_;refine Late.h HS 7 [13] rfl hx1 ?_;refine Late.h HS 8 [13] rfl hx1 ?_;refine Late.h HS 9 [13] rfl hx1 ?_;refine Late.h HS 10 [13] rfl hx1 ?_;refine Late.o 11 rfl (fun K hK=>?_);go_simp;refine hK _ _ (fun _=>hx1.alloc _) ?_;clear hK K;try simp only[lX]
   refine Late.o 12 rfl (fun K hK=>?_);refine d_ rfl _ _ 232 232 rfl 253 zWp 6 48 Tryz.underlying232 Ua rfl _ _ _ (by rfl) (ho.ext (ax.drew.alloc _)) _ (by rfl) 1 _ (dO wr.drew wr.drew.heap.size rfl _ _ Tryz.underlying232 _ (b_ ⟨fp,g,k,gr.rows⟩) rfl (Ub _)) af af ?_;intro v' w5 o5 k5 s5;have g5:Kp (fun b=>W.heap.size≤b) wr w5:=(hx1.alloc _).trans (k5.mono (fun i _ e=>hfr i e));refine hK _ _ (fun _=>g5) ?_;clear hK K;obtain⟨a',c',rfl,hc'⟩:=o5.shape;try simp only[lX]
   refine Late.o 13 rfl (fun K hK=>?_);go_simp;refine hK _ _ (fun h=>absurd rfl h) ?_;clear hK K;try simp only[lX]
   refine Late.done (by kernel_rfl) ?_ _
   go_wp2_with fail
   refine⟨⟨k+1,by go_num,af,by rw[HT.out];exact o5,fun b e=>?_,hx.then g5 (fun i hi e=>af)⟩,by simp[intOf];omega⟩;rcases s5 with e'|⟨g',e1,e2⟩
   ·rw[e']at e;exact hfr b e
   ·rw[e1]at e;simp only[Option.some.injEq]at e;subst e;have:=hx.size;simp at e2;omega
  ·obtain rfl:k=bD.length:=af;have hwr:((List.range bD.length).map fun i=>(⟨gr.pages.getD (bD.getD i 0) default,g,i,gr.rows⟩:Pl.cK))=Pl.dP g gr bD:=rfl;rw[hwr]at ho;obtain⟨tb,Md,he,am7,-,-⟩:=ho.at af;cases he;have hfb:W.heap.size≤tb:=hfr tb rfl;have hwl:=lQ g gr bD;have HC:=hide (Ih wr tb tc (Pl.dP g gr bD) af af (by rw[hwl];exact ho));rw[hwl]at HC;clear hwr hwl
   go_wp2_with (go_at_call 166;refine(bH HC).mono ?_;rintro e w1 ⟨rfl,o1,k1⟩)
   go_ret;exact⟨_,rfl,(x0.trans hx).then k1 (fun i hi e=>af),(o1.rowAt _ (fun b e=>by simp[Value.ownBlock]at e;omega)).weak⟩
namespace Pl
structure vR (n foot:Nat)(g:eu):Prop where
 KH:1≤g.rows
 BM:g.rows≤20
 pages:g.pages.length=n
 place:∀p∈g.pages,4≤p.place
 length:∀p∈g.pages,1≤p.length
 ends:∀p∈g.pages,p.place+p.length≤foot+1
 sums:∀p∈g.pages,p.sum<4294967296
structure ab2 (foot:Nat)(f:KX):Prop where
 names:fJ f.names=true
 count:f.groups.length≤6
 groups:∀g∈f.groups,vR f.names.length foot g
theorem aao (r:dS):(qm r).1<4294967296:=by
 have h:∀k r,(iter oP k (0,r)).1<4294967296:=by
  intro k;induction k with
  |zero=>intro r;show 0<_;omega
  |succ k ih=>
   intro r;have h1:=ih r;have h2:=zZ (iter oP k (0,r)).2;show(iter oP k (0,r)).1*256%4294967296+(dX (iter oP k (0,r)).2).1<4294967296;omega
 exact h 4 r
theorem Ug (foot:Nat)(hf:4≤foot)(r:dS):∀k,∀p∈(iter (gq foot) k ([],r)).1,4≤p.place∧1≤p.length∧p.place+p.length≤foot+1∧p.sum<4294967296:=by
 intro k;induction k with
 |zero=>intro p hp;simp[iter]at hp
 |succ k ih=>
  intro p hp;simp only[iter,gq,aI,aZ]at hp;rcases hp with hp|rfl
  ·exact ih p hp
  ·have h1:=CY 4 (foot-1) (iter (gq foot) k ([],r)).2;have h2:=CY 1 (foot-(di 4 (foot-1) (iter (gq foot) k ([],r)).2).1) (di 4 (foot-1) (iter (gq foot) k ([],r)).2).2;refine⟨h1.1,h2.1,?_,aao _⟩;show(di 4 (foot-1) (iter (gq foot) k ([],r)).2).1+(di 1 (foot-(di 4 (foot-1) (iter (gq foot) k ([],r)).2).1) (di 4 (foot-1) (iter (gq foot) k ([],r)).2).2).1≤foot+1;omega
theorem Uh (n foot:Nat)(hf:4≤foot)(r:dS):vR n foot (ou n foot r).1:=by
 have h:=Ug foot hf (di 1 20 r).2 n;have hr:=oJ 1 20 r af;exact⟨hr.1,hr.2,(vH foot n _).1,fun p hp=>(h p hp).1,fun p hp=>(h p hp).2.1,fun p hp=>(h p hp).2.2.1,fun p hp=>(h p hp).2.2.2⟩
theorem qL (data:List UInt8)(foot:Nat)(hf:4≤foot)(f:KX)(h:gU data foot=some f):ab2 foot f:=by
 unfold gU at h;split at h
 ·rename_i hc;cases h;refine⟨hc.2,?_,?_⟩
  ·show(jQ data foot).1.length≤6;unfold jQ;simp only;rw[(yT _ foot _ _).1];exact(oJ 0 6 _ af).2
  ·have:∀(c k:Nat)(r:dS),∀g∈(iter (fT c foot) k ([],r)).1,vR c foot g:=by
    intro c k;induction k with
    |zero=>intro r g hg;simp[iter]at hg
    |succ k ih=>
     intro r g hg;simp only[iter,fT,aI,aZ]at hg;rcases hg with hg|rfl
     ·exact ih r g hg
     ·exact Uh c foot hf _
   exact this _ _ _
 ·cases h
theorem DK (names:List (List UInt8)):∀(want:List (List UInt8))(acc bD:List Nat),jR names want acc=some bD→(∀c∈acc,c<names.length)→acc.Nodup→bD.length=acc.length+want.length∧0<bD.length∧(∀c∈bD,c<names.length)∧bD.Nodup
 |[],acc,bD,h,ha,hn=>by
  unfold jR at h;split at h
  ·cases h;exact⟨aj,by assumption,ha,hn⟩
  ·cases h
 |n::r,acc,bD,h,ha,hn=>by
  rw[Kr]at h;cases hi:indexOf names n with
  |none=>rw[hi]at h;cases h
  |some i=>
   rw[hi]at h;simp only at h;have hil:i<names.length:=(List.findIdx?_eq_some_iff_getElem.1 hi).1;split at h
   ·cases h
   ·rename_i hni;have:=DK names r (acc++[i]) bD h (fun c hc=>by
     rcases aI.1 hc with h|h
     ·exact ha c h
     ·simp at h;omega) (by
     rw[List.nodup_append];exact⟨hn,aj,fun a ha b hb=>by simp at hb;subst hb;exact fun e=>hni (e▸ha)⟩)
    simp at this⊢;exact⟨af,this.2⟩
theorem vL (names want:List (List UInt8))(bD:List Nat)(h:columns names want=some bD):bD.length=want.length∧0<bD.length∧(∀c∈bD,c<names.length)∧bD.Nodup:=by
 have:=DK names want [] bD h (fun c hc=>by simp at hc) aj;simpa using this
structure WOk (foot ng nc:Nat)(gs:List eu)(x:cK):Prop where
 group:x.group<ng
 column:x.column<nc
 rows:gs[x.group]?.map (·.rows)=some x.rows
 place:4≤x.page.place
 length:1≤x.page.length
 ends:x.page.place+x.page.length≤foot+1
 sum:x.page.sum<4294967296
structure PN (M:Nat)(p:Piece):Prop where
 len:1≤p.length
 ends:p.place+p.length≤M
 within:∀x∈p.pages,p.place≤x.page.place∧x.page.place+x.page.length≤p.place+p.length
 some:p.pages≠[]
theorem Me (gap M:Nat)(l:List cK)(hs:Sorted M l)(h1:∀x∈l,1≤x.page.length):∀k,k≤l.length→∀p∈jc gap (l.take k),PN M p∧(∀x∈p.pages,x∈l)∧∀y∈l.drop k,p.place≤y.page.place:=by
 intro k;induction k with
 |zero=>intro _ p hp;simp[jc]at hp
 |succ k ih=>
  intro hk q hq;have hkl:k<l.length:=hk;have e:jc gap (l.take (k+1))=jS gap (jc gap (l.take k)) l[k]:=by
   unfold jc;rw[aF hkl,List.foldl_append];rfl
  have hin:l[k]∈l.drop k:=by rw[aV hkl];exact List.mem_cons_self
  have hsub:∀y∈l.drop (k+1),y∈l.drop k:=fun y hy=>by rw[aV hkl];exact List.mem_cons_of_mem _ hy
  have Xr:∀y∈l.drop (k+1),l[k].page.place≤y.page.place:=fun y hy=>by
   have hp:=hs.2.sublist (List.drop_sublist k l);rw[aV hkl,List.pairwise_cons]at hp;exact hp.1 y hy
  have hm:=hs.1 l[k] (aJ hkl);have hl1:=h1 l[k] (aJ hkl);rw[e]at hq;rcases Jm hq with hq|rfl|⟨p,hp,rfl⟩
  ·obtain⟨a,b,c⟩:=ih (Nat.le_of_lt hkl) q hq;exact⟨a,b,fun y hy=>c y (hsub y hy)⟩
  ·refine⟨⟨hl1,hm,fun x hx=>?_,aj⟩,fun x hx=>?_,Xr⟩
   ·simp at hx;subst hx;exact⟨aK _,aK _⟩
   ·simp at hx;subst hx;exact aJ hkl
  ·obtain⟨a,b,c⟩:=ih (Nat.le_of_lt hkl) p hp;have hpl:=c _ hin;have a1:=a.len;have a2:=a.ends;refine⟨⟨?_,?_,fun x hx=>?_,aj⟩,fun x hx=>?_,fun y hy=>c y (hsub y hy)⟩
   ·show 1≤max p.length _;omega
   ·show p.place+max p.length (l[k].page.place+l[k].page.length-p.place)≤M;omega
   ·show p.place≤_∧_≤p.place+max p.length (l[k].page.place+l[k].page.length-p.place);rcases aI.1 hx with h|h
    ·have:=a.within x h;omega
    ·simp at h;subst h;omega
   ·rcases aI.1 hx with h|h
    ·exact b x h
    ·simp at h;subst h;exact aJ hkl
theorem DL (gap foot:Nat)(bD:List Nat)(nn:Nat)(gs:List eu)(hg:∀g∈gs,vR nn foot g)(hc:∀c∈bD,c<nn):∀k,k≤gs.length→∀p∈fU gap bD gs k,PN (foot+1) p∧∀x∈p.pages,WOk foot k bD.length gs x:=by
 intro k;induction k with
 |zero=>intro _ p hp;simp[fU]at hp
 |succ k ih=>
  intro hk p hp;have hkl:k<gs.length:=hk;simp only[fU,aI]at hp;rcases hp with hp|hp
  ·obtain⟨a,b⟩:=ih (Nat.le_of_lt hkl) p hp;exact⟨a,fun x hx=>⟨by have:=(b x hx).group;omega,(b x hx).column,(b x hx).rows,(b x hx).place,(b x hx).length,(b x hx).ends,(b x hx).sum⟩⟩
  ·have hgd:gs.getD k default=gs[k]:=by rw[aC,ay hkl];rfl
   rw[hgd]at hp;have hok:=hg gs[k] (aJ hkl);have hraw:∀x∈iD (dP k gs[k] bD),WOk foot (k+1) bD.length gs x:=fun x hx=>by
    have hx':=(wG (dP k gs[k] bD)).2 x hx;unfold dP at hx';rw[List.mem_map]at hx';obtain⟨i,hi,rfl⟩:=hx';rw[List.mem_range]at hi;have hci:bD.getD i 0<nn:=by
     rw[aC,ay hi];exact hc _ (aJ hi)
    have hpm:gs[k].pages.getD (bD.getD i 0) default∈gs[k].pages:=by
     rw[aC,ay (by rw[hok.pages];exact hci)];exact aJ _
    exact⟨by show k<k+1;omega,hi,by simp[ay hkl],hok.place _ hpm,hok.length _ hpm,hok.ends _ hpm,hok.sums _ hpm⟩
   have hs:Sorted (foot+1) (iD (dP k gs[k] bD)):=⟨fun x hx=>(hraw x hx).ends,(wG _).1⟩
   have:=Me gap (foot+1) _ hs (fun x hx=>(hraw x hx).length) _ (aK _);rw[aX]at this;obtain⟨a,b,-⟩:=this p hp;exact⟨a,fun x hx=>hraw x (b x hx)⟩
end Pl
def Mf (C:Nat→Prop)(w:World)(v:Value)(l:List Pl.Piece):Prop:=∃bJ,bM C false w 3 v l.length (gH bJ l)∧oN C w bJ l
theorem F4 (p1 p2:List Value)(l1 l2:List Pl.Piece)(h:p1.length=l1.length):gH (p1++p2) (l1++l2)=gH p1 l1++gH p2 l2:=by
 unfold gH;rw[List.zipWith_append h,List.flatten_append]
theorem oN.append {C:Nat→Prop}{w:World}{p1 p2:List Value}{l1 l2:List Pl.Piece}(h1:oN C w p1 l1)(h2:oN C w p2 l2):oN C w (p1++p2) (l1++l2):=by
 refine⟨by simp[h1.1,h2.1],fun i pv p a b=>?_⟩;by_cases hi:i<p1.length
 ·rw[aS hi]at a;rw[aS (by rw[←h1.1];exact hi)]at b;exact h1.2 i pv p a b
 ·rw[aP af]at a;rw[aP (by rw[←h1.1];omega),←h1.1]at b;exact h2.2 _ pv p a b
theorem Own.src {P:Program}{w:World}{size n:Nat}{v:Value}{cs:List Value}(h:Own w size v n cs)(t e:TypeId)(ht:P.underlying t=some (.slice e))(h1:∀u∈cs,u.oneCell'=true):Src P size t v n cs w:=by
 rcases h.2 with⟨rfl,rfl⟩|⟨g,cap,rfl,_,_,_,h4,_⟩
 ·have:cs=[]:=aT (by simpa using h.1);subst this;exact Src.ofNil _ (e':=e) ht 0
 ·exact Src.ofSlice (P:=P) _ (e':=e) ht _ _ _ _ h.1 (fun j u hu=>by
   have hj:=(aL.1 hu).1;rw[Addr.add_lit,Nat.zero_add];exact(h4 j (by rw[←h.1];exact hj)).trans hu) h1
theorem Mg (bJ:List Value)(l:List Pl.Piece)(hp:∀pv∈bJ,∃a n c,pv=.slice a n c):∀u∈gH bJ l,u.oneCell'=true:=by
 intro u hu;unfold gH at hu;rw[List.mem_flatten]at hu;obtain⟨e,he,hu⟩:=hu;rw[List.mem_iff_getElem]at he;obtain⟨i,hi,rfl⟩:=he;have hi':i<bJ.length:=by simp at hi;omega
 rw[List.getElem_zipWith]at hu;simp at hu;rcases hu with rfl|rfl|rfl
 ·rfl
 ·rfl
 ·obtain⟨a,n,c,e⟩:=hp _ (aJ hi');rw[e];rfl
theorem oN.slices {C:Nat→Prop}{w:World}{bJ:List Value}{l:List Pl.Piece}(h:oN C w bJ l):∀pv∈bJ,∃a n c,pv=.slice a n c:=by
 intro pv hp;obtain⟨i,hi⟩:=List.getElem?_of_mem hp;have hil:=(aL.1 hi).1;obtain⟨a,c,e,-⟩:=(h.2 i pv _ hi (ay (by rw[←h.1];exact hil))).get;exact⟨_,_,_,e⟩
theorem BN (gap:Nat)(l:List Pl.cK):(Pl.jc gap l).length≤l.length:=by
 have h:∀(l:List Pl.cK)(acc:List Pl.Piece),(l.foldl (Pl.jS gap) acc).length≤acc.length+l.length:=by
  intro l;induction l with
  |nil=>intro acc;simp
  |cons a l ih=>
   intro acc;rw[List.foldl_cons];have h1:=ih (Pl.jS gap acc a);have h2:(Pl.jS gap acc a).length≤acc.length+1:=by
    unfold Pl.jS;split
    ·simp
    ·split
     ·rw[aD,List.length_dropLast];simp only[aR,List.length_nil];omega
     ·simp
   simp;omega
 simpa[Pl.jc]using h l []
theorem BO (gap:Nat)(bD:List Nat)(gs:List Pl.eu)(k:Nat):(Pl.fU gap bD gs k).length≤k*bD.length:=by
 induction k with
 |zero=>simp[Pl.fU]
 |succ k ih=>
  have h1:(Pl.tu gap bD k (gs.getD k default)).length≤bD.length:=by
   have:=BN gap (Pl.iD (Pl.dP k (gs.getD k default) bD));rw[Pl.uS,lQ]at this;exact this
  simp only[Pl.fU,aD,Nat.add_mul,Nat.one_mul];omega
theorem ab3 (C D:Nat→Prop)(w:World)(gv cv:Value)(bJ:List Value)(gs:List Pl.eu)(bD:List Nat)(nc gap:Nat)(hr:bM C false w 2 gv gs.length (qK bJ gs))(hp:u7 C w nc bJ gs)(hc:bM D false w 1 cv bD.length (bD.map fun n:Nat=>I n))(hcl:0<bD.length)(Ii:bD.length≤10)(yo:∀c∈bD,c<nc)(hnc:nc≤1000)(hgl:gs.length≤100)(BK:gap≤1000000)(hM:∀g∈gs,Pl.Ig 1000000 g):
 Calls Tryz.prog 124 #[gv,cv,.int .i64 gap] w fun e w'=>∃v,e=.returned v∧Ext w w'∧Mf (fun b=>w.heap.size≤b) w' v (Pl.fH gap bD gs):=by
 obtain⟨ga,gc,rfl,hgc,h3⟩:=hr.get;have hpl:=hp.1;have hcs:=hc;obtain⟨ca,cc,rfl,-,-⟩:=hcs.get;clear hr hcs;go_enter Tryz.func124,Tryz.ntmps124
 go_wp2_with fail
 go_loopw [7,12] (fun t i wr=>∃(k:Nat)(qs:List Value),i=.int .i64 k∧k≤gs.length∧Own wr 3 t (Pl.fU gap bD gs k).length (gH qs (Pl.fU gap bD gs k))∧oN (fun b=>w.heap.size≤b∧t.ownBlock≠some b) wr qs (Pl.fU gap bD gs k)∧(∀b,t.ownBlock=some b→w.heap.size≤b)∧Ext w wr) (fun _ i _=>gs.length-(intOf i).toNat)
 case atStart=>exact⟨0,[],rfl,af,Own.nil _ _,⟨rfl,fun i pv p a=>by simp at a⟩,fun b e=>by simp[Value.ownBlock]at e,Kp.refl _ _⟩
 case round=>
  obtain⟨k,qs,rfl,hk,ho,hpc,hfr,hx⟩:=hrel;have hlen:=BO gap bD gs k;have hkc:k*bD.length≤100*10:=Nat.mul_le_mul af af;obtain⟨ta,tc,rfl,htc⟩:=ho.shape;by_cases hkl:k<gs.length
  ·obtain⟨b,off,rfl,hb,hcc⟩:=h3 af;have d0:=hx.cell ((hcc (k*2+0) af).trans (Ac bJ gs hpl k 0 hkl af)) id;have d1:=hx.cell ((hcc (k*2+1) af).trans (Ac bJ gs hpl k 1 hkl af)) id;obtain⟨SY,hgr⟩:=hp.2 k _ _ (ay af) (ay hkl);have hMk:=hM gs[k] (aJ hkl);have hgd:gs.getD k default=gs[k]:=by rw[aC,ay hkl];rfl
   have HT:Hid (Pl.fU gap bD gs (k+1)=Pl.fU gap bD gs k++Pl.jc gap (Pl.iD (Pl.dP k gs[k] bD))):=hide (by rw[←hgd];rfl);generalize gs[k]=gr at*;generalize bJ[k]'af=pv at*;obtain⟨pa,pn,rfl,-,-⟩:=hgr.get;simp only[I,Nat.add_zero,←Nat.add_assoc]at d0 d1;clear hcc h3 hgd;generalize hPT:Pl.fU gap bD gs k=PT at*;have HS:=hide (Pl.Kz 1000000 k gr bD hMk);have HW:=hide (fun(u:World)(hu:Ext w u)=>Rm C D u k nc gr _ _ bD (hgr.go (S:=fun _=>False) hu (fun _ _ f=>f) (fun _ _ e=>e)) SY (hc.go (S:=fun _=>False) hu (fun _ _ f=>f) (fun _ _ e=>e)) hcl Ii yo af hnc);have hwl:(Pl.iD (Pl.dP k gr bD)).length=bD.length:=by rw[Pl.uS,lQ]
   have HJ:=hide (BN gap (Pl.iD (Pl.dP k gr bD)));generalize Pl.iD (Pl.dP k gr bD)=SW at*;have hx2:∀o,Ext w (wr.alloc o):=fun o=>hx.alloc o
   go_wp2_with (first|(at_builtin;have hJo:=hjs.own;obtain⟨q2,am8,hO2,hf2,hP2⟩:=hJo;go_must (refine dI _ rfl _ _ 137 137 rfl 235 Uf 3 40 Tryz.underlying137 F3 rfl _ _ _ rfl (ho.ext ((hx1.trans x2).trans x3)) _ rfl _ _ (hO2.src 137 235 Tryz.underlying137 (Mg _ _ hP2.slices)) (by have:=HJ.out;omega) (by have:=HJ.out;omega) ?_);intro v4 w4 o4 k4 s4)|(go_at_call 147;refine(Xt _ w2 _ SW gap (by rw[hwl];exact r2) af HS.out BK).mono ?_;rintro e w3 ⟨jv,rfl,x3,hjs⟩)|(go_at_call 148;refine((bH HW) _ (hx2 _)).mono ?_;rintro e w2 ⟨wv,rfl,x2,r2⟩;have hx1:Ext wr (wr.alloc (.cells #[.int .i64 gr.rows,.slice pa nc pn] 229)):=ax.alloc _))
   have PI:Ext wr w3:=(hx1.trans x2).trans x3;have am9:wr.heap.size≤w2.heap.size:=aO hx1.size x2.size;have am_:=x3.size;have hzw:=hx.size;have hol:∀g,(Value.slice ta PT.length tc).ownBlock=some g→g<wr.heap.size:=fun g e=>ho.lt e
   have hnew:∀g,v4.ownBlock=some g→(Value.slice ta PT.length tc).ownBlock=some g∨w3.heap.size≤g:=fun g e=>by
    rcases s4 with e'|⟨g',e1,e2⟩
    ·rw[e']at e;exact .inl e
    ·rw[e1]at e;simp only[Option.some.injEq]at e;subst e;exact .inr e2
   refine⟨⟨k+1,qs++q2,by go_num,af,?_,?_,fun g e=>(hnew g e).elim (hfr g) (fun e=>af),(hx.trans PI).then k4 (fun i hi e=>by have:=hfr i e;omega)⟩,by simp[intOf];omega⟩
   ·rw[HT.out,aD,F4 _ _ _ _ hpc.1];exact o4
   ·rw[HT.out];refine oN.append ?_ ?_
    ·refine(hpc.go PI (fun _ _ f=>f) (C':=fun b=>(w.heap.size≤b∧(Value.slice ta PT.length tc).ownBlock≠some b)∧b<wr.heap.size) (fun i hi h=>⟨h,hi⟩)).go k4 (fun i hi e=>hi.1.2 e) (fun i hi h=>⟨h.1.1,fun e=>(hnew i e).elim h.1.2 (fun e=>af)⟩)
    ·exact hP2.go k4 (fun i hi e=>by have:=hol i e;omega) (fun i hi h=>⟨af,fun e=>(hnew i e).elim (fun e=>by have:=hol i e;omega) (fun e=>af)⟩)
  ·obtain rfl:k=gs.length:=af
   go_wp2_with fail
   go_ret;exact⟨_,rfl,hx,qs,(ho.rowAt _ hfr).weak,hpc.go (S:=fun _=>False) ax (fun _ _ f=>f) (fun i _ h=>h.1)⟩
def l5 (col:bU)(n0 n1:Nat)(gv:Value)(bs:List Nat):bU:=fun k=>
 if k<n0 then col k else if gv.ownBlock=some k then .groups else match bs.findIdx? (fun b=>decide (b=k))with
  |some i=>.lists i
  |none=>if k<n1 then .ro else .out
theorem Rn {l:List Nat}(hn:l.Nodup){i:Nat}(hi:i<l.length):l.findIdx? (fun b=>decide (b=l[i]))=some i:=by
 rw[List.findIdx?_eq_some_iff_getElem];refine⟨hi,aj,fun j hj=>?_⟩;simp;intro e;exact(List.pairwise_iff_getElem.1 hn) j i af hi hj e
theorem ab4 {bV:bU}{w:World}{b i bD:Nat}(hb:bK w b (List.replicate bD (.slice none 0 0)) 46)(hc:bV b=.lists i):tH bV w i (Jj bD b) (List.replicate bD []):=by
 refine⟨List.replicate bD (.slice none 0 0),aj,⟨aj,_,bD,aj,aj,fun hp=>⟨b,0,rfl,hc,hb.lt,fun j hj=>?_,fun _ j hj=>hb.free _⟩⟩,fun j u l hu hl=>?_⟩
 ·rw[Nat.zero_add];exact hb.cell j
 ·have e1:=List.eq_of_mem_replicate (List.mem_of_getElem? hu);have e2:=List.eq_of_mem_replicate (List.mem_of_getElem? hl);subst e1;subst e2;exact bM.nil _ _ _ _
theorem Xv {col:bU}{w w8:World}{P bD:Nat}{m:Pl.Sc}{ps qs:List Nat}{nv av wv hv gv jN hv':Value}{bs ls:List Nat}{pF:List Pl.Piece}(n1:Nat)(h:fA col w P m ps qs nv av wv hv gv)(k:Kp (fun k=>k=P) w w8)(hn1:n1≤w8.heap.size)(hw1:w.heap.size≤n1)
 (hb:bK w8 P (dw P {m with rows:=Pl.jL bD ls,ahead:=pF} nv av wv hv' jN) 142)
 (hO:Own w8 3 jN ls.length (jF (bs.map (Jj bD)) (ls.map (BF bD))))(hbl:bs.length=ls.length)(hg:∀g,jN.ownBlock=some g→w.heap.size≤g∧g∉bs∧g<n1)(hnd:bs.Nodup)(hbs:∀b∈bs,w.heap.size≤b∧b<n1∧bK w8 b (List.replicate bD (.slice none 0 0)) 46)
 (hp:Mf (fun b=>n1≤b) w8 hv' pF):
 fA (l5 col w.heap.size w8.heap.size jN bs) w8 P {m with rows:=Pl.jL bD ls,ahead:=pF} ps qs nv av wv hv' jN:=by
 have hlt:∀i,i<w.heap.size→l5 col w.heap.size w8.heap.size jN bs i=col i:=fun i hi=>by unfold l5;rw[if_pos hi]
 have hnone:∀i,n1≤i→bs.findIdx? (fun b=>decide (b=i))=none:=fun i hi=>by
  rw[List.findIdx?_eq_none_iff];intro x hx;have:=(hbs x hx).2.1;simp;omega
 have ab5:∀i,n1≤i→jN.ownBlock≠some i:=fun i hi e=>by have:=(hg i e).2.2;omega
 have htop:∀i,w8.heap.size≤i→l5 col w.heap.size w8.heap.size jN bs i=.out:=fun i hi=>by
  unfold l5;rw[if_neg af,if_neg (ab5 i af),hnone i af];simp only;rw[if_neg af]
 have hro:∀i,i<w8.heap.size→n1≤i→l5 col w.heap.size w8.heap.size jN bs i=.ro:=fun i hi h1=>by
  unfold l5;rw[if_neg af,if_neg (ab5 i h1),hnone i h1];simp only;rw[if_pos hi]
 have hi:=h.inn.go (bV:=l5 col w.heap.size w8.heap.size jN bs) k h.blk.lt (fun i hi=>.inr (by rw[hi];exact h.inn.cB)) hlt htop;obtain⟨bJ,hpr,hpc⟩:=hp;refine⟨hb,hi.cB,hi.top,hi.names,hi.asked,hi.jd,hi.eY,hi.waiting,hi.jW,hi.gI,hi.nodup,⟨bJ,hpc.1,hpr.go (S:=fun _=>False) ax (fun _ _ f=>f) (fun i hi h=>hro i hi h),fun i pv p a b=>(hpc.2 i pv p a b).go (S:=fun _=>False) ax (fun _ _ f=>f) (fun i hi h=>hro i hi h)⟩,?_⟩;refine⟨bs.map (Jj bD),by simp[Pl.jL,hbl],?_,fun i lv g a b=>?_⟩
 ·have:=hO.rowAt (fun b=>l5 col w.heap.size w8.heap.size jN bs b=.groups) (fun g e=>by
   unfold l5;rw[if_neg (by have:=(hg g e).1;omega),if_pos e])
  have e:(Pl.jL bD ls).groups=ls.map (BF bD):=rfl;rw[e,aQ];exact this
 ·have e:(Pl.jL bD ls).groups=ls.map (BF bD):=rfl;show tH _ _ (0+i) _ _;rw[Nat.zero_add];change(ls.map (BF bD))[i]?=some g at b;rw[aN]at a b;have hil:i<bs.length:=by
   rcases Nat.lt_or_ge i bs.length with h|h
   ·exact h
   ·rw[bn h]at a;cases a
  rw[ay hil]at a;rw[ay af]at b;cases a;cases b;have hbi:=hbs bs[i] (aJ hil);refine ab4 hbi.2.2 ?_;unfold l5;rw[if_neg af,if_neg (fun e=>(hg _ e).2.1 (aJ hil)),Rn hnd hil]
theorem Ij (C:Nat→Prop)(col:bU)(w:World)(P:Nat)(m:Pl.Sc)(ps qs:List Nat)(nv av wv hv gv:Value)(h:fA col w P m ps qs nv av wv hv gv)(v:Value)(l:List UInt8)(hC:∀i,C i→i<w.heap.size)(hr:bM C false w 1 v l.length (l.map B))(ana:l.length+10≤m.size)(hsz:m.size≤4000)(hwant:m.want.length≤4)(BK:m.gap≤1000)(hwin:m.win≤1000)(hop:m.opened≤900)(hid:m.bW≤100000000000)(hal:m.asked.length≤900):
 Calls Tryz.prog 104 #[PtrTo P 0,v] w fun e w'=>e=.returned (.tuple #[])∧∃bV,iW bV w' P (Pl.jT m l)∧cu col w w' bV:=by
 have s1:=h.blk.cell 1;have s2:=h.blk.cell 2;have s6:=h.blk.cell 6;simp only[dw,I,au]at s1 s2 s6;obtain⟨foot,Y0⟩:∃foot,foot=m.size-6-l.length:=⟨_,rfl⟩
 have hfe:(m.size:Int)-6-(l.length:Int)=(foot:Int):=af;have Lr:4≤foot:=af;have hfM:foot≤4000:=af;have hr0:=hr;obtain⟨va,vc,rfl,-,-⟩:=hr0.get;have Ui:=hide (Hz C w _ l foot hC hr af Lr af);have Jo:Hid (Pl.jT m l=match Pl.gU l foot with
  |none=>Pl.ended 2
  |some f=>match Pl.columns f.names m.want with
   |none=>Pl.ended 3
   |some bD=>if f.groups.length=0 then Pl.ended 1 else Pl.fV {m with rows:=Pl.jL bD.length (f.groups.map (·.rows)),ahead:=Pl.fH m.gap bD f.groups}):=hide (by rw[Y0];rfl)
 clear Y0 hr0 hr;have hnm:=h.inn.names;obtain⟨na,nc,rfl,-,-⟩:=hnm.get;go_enter Tryz.func104,Tryz.ntmps104;cases hrf:Pl.gU l foot with
 |none=>
  rw[hrf]at Ui Jo
  go_wp2_with fail
  refine(bH Ui).mono ?_;rintro e w1 ⟨x1,hs⟩;cases hs
  go_wp2_with fail
  have xa:Ext w (w1.alloc (.cells #[.slice none 0 0,.slice none 0 0] 188)):=x1.alloc _;refine(pY col _ P _ (lV _ _ _ _ _ _ _) 2 (by decide) (h.ext xa).blk h.inn.cB (h.ext xa).inn.top).mono ?_;rintro e w2 ⟨rfl,r2,k2⟩
  go_wp2_with fail
  try simp only[Exit.inBlock,Exit.then]
  refine bodyPost_ret (results_none rfl _ _ _) rfl ?_;rw[Jo.out];obtain⟨a,b⟩:=(h.ext xa).ends r2 k2;exact⟨rfl,col,a,(cu.ext xa).trans b⟩
 |some f=>
  have hok:=Pl.qL l foot Lr f hrf;rw[hrf]at Ui Jo
  go_wp2_with fail
  refine(bH Ui).mono ?_;rintro e w1 ⟨x1,hs⟩;cases hs with
  |yes f fn fg bJ hn hg hp=>
  obtain⟨PO,PS,rfl,-,-⟩:=hn.get;obtain⟨F5,F6,rfl,-,-⟩:=hg.get
  go_wp2_with fail
  have xa:Ext w (w1.alloc (.cells #[.slice PO f.names.length PS,.slice F5 f.groups.length F6] 188)):=x1.alloc _;have x1a:Ext w1 (w1.alloc (.cells #[.slice PO f.names.length PS,.slice F5 f.groups.length F6] 188)):=ax.alloc _;have bF:=bK.bO w1 [.slice PO f.names.length PS,.slice F5 f.groups.length F6] 188;generalize w1.alloc (.cells #[.slice PO f.names.length PS,.slice F5 f.groups.length F6] 188)=W1 at*;have hn1:=hn.go (S:=fun _=>False) (C':=fun b=>w.heap.size≤b) x1a (fun _ _ f=>f) (fun _ _ e=>e);have hg1:=hg.go (S:=fun _=>False) (C':=fun b=>w.heap.size≤b) x1a (fun _ _ f=>f) (fun _ _ e=>e);have hp1:=hp.go (S:=fun _=>False) (C':=fun b=>w.heap.size≤b) x1a (fun _ _ f=>f) (fun _ _ e=>e);clear hn hg hp Ui;have hS:∀u,Ext W1 u→u.cell? ⟨P,2,none⟩=some (.slice na m.want.length nc)∧u.cell? ⟨w1.heap.size,0,none⟩=some (.slice PO f.names.length PS)∧u.cell? ⟨w1.heap.size,1,none⟩=some (.slice F5 f.groups.length F6):=fun u hu=>⟨(xa.trans hu).cell s2 id,hu.cell (bF.cell 0) id,hu.cell (bF.cell 1) id⟩
  have HS:=hide hS;clear hS;have hx1:Ext W1 W1.drew:=ax.drew;have ajH:f.names.length≤4:=((Pl.fD f.names).1 hok.names).2.1;refine bZ (n:=10) (Ext W1) (by kernel_rfl) ?_;refine Late.h HS 0 [10] rfl hx1 ?_;refine Late.h HS 1 [10] rfl hx1 ?_;refine Late.h HS 2 [10] rfl hx1 ?_;refine Late.h HS 3 [10] rfl hx1 ?_;refine Late.h HS 4 [10] rfl hx1 ?_;refine Late.o 5 rfl (fun K hK=>?_);refine fe rfl 121 #[.agg #[.slice PO f.names.length PS,.slice F5 f.groups.length F6],.slice na m.want.length nc] (by go_simp) ?_;refine(OC _ _ W1.drew _ _ _ f.names m.want ⟨_,_,_,rfl⟩ (hn1.go (S:=fun _=>False) (C':=fun b=>w.heap.size≤b) hx1 (fun _ _ f=>f) (fun _ _ e=>e)) (hnm.go (S:=fun _=>False) (C':=fun b=>col b=.ro) (xa.trans hx1) (fun _ _ f=>f) (fun _ _ e=>e)) af af).mono ?_;rintro e w3 ⟨x3,hcs⟩;have hx3:Ext W1 w3:=hx1.trans x3;have hcs':=hcs;have hsh:∃a b,e=.returned (.tuple #[a,.bool b])∧(∃c d e,a=.slice c d e):=by
   generalize Pl.columns f.names m.want=cc at hcs';cases hcs' with
   |no v hv=>exact⟨_,_,rfl,hv⟩
   |yes v l h0 hr=>obtain⟨x,y,rfl,-⟩:=hr.get;exact⟨_,_,rfl,_,_,_,rfl⟩
  obtain⟨ca,cb,rfl,oZ,Pn,Po,rfl⟩:=hsh;refine⟨_,rfl,hK _ _ (fun _=>hx3) ?_⟩;clear hK K hcs';try simp only[lX]
  refine Late.t 6 [10] rfl hx3 ?_;refine Late.t 7 [10] rfl hx3 ?_;refine Late.t 8 [10] rfl hx3 ?_;refine Late.o 9 rfl (fun K hK=>?_);go_simp;refine hK _ _ (fun _=>hx3) ?_;clear hK K;try simp only[lX]
  refine Late.o 10 rfl (fun K hK=>?_);go_simp;refine hK _ _ (fun h=>absurd rfl h) ?_;clear hK K;try simp only[lX]
  refine Late.done (by kernel_rfl) ?_ _;have yu:Ext w w3:=xa.trans hx3;have h3:=h.ext yu;cases hco:Pl.columns f.names m.want with
  |none=>
   rw[hco]at hcs Jo;cases hcs
   go_wp2_with fail
   refine(pY col w3 P _ (lV _ _ _ _ _ _ _) 3 (by decide) h3.blk h3.inn.cB h3.inn.top).mono ?_;rintro e w4 ⟨rfl,r4,k4⟩
   go_wp2_with fail
   try simp only[Exit.inBlock,Exit.then]
   refine bodyPost_ret (results_none rfl _ _ _) rfl ?_;rw[Jo.out];obtain⟨a,b⟩:=h3.ends r4 k4;exact⟨rfl,col,a,(cu.ext yu).trans b⟩
  |some bD=>
   have Jp:=hide (Pl.vL f.names m.want bD hco);rw[hco]at hcs Jo;cases hcs with
   |yes _ _ h0c hrc=>
   have ab7:=hrc;obtain⟨_,_,hee,-,-⟩:=ab7.get;cases hee;clear ab7;have e0:=(bH HS) w3 hx3;obtain⟨q0,q1,q2⟩:=e0;by_cases hg0:f.groups.length=0
   ·have Mh:Hid (Pl.jT m l=Pl.ended 1):=hide (by rw[Jo.out];simp only;rw[if_pos hg0])
    go_wp2_with fail
    refine(pY col w3 P _ (lV _ _ _ _ _ _ _) 1 (by decide) h3.blk h3.inn.cB h3.inn.top).mono ?_;rintro e w4 ⟨rfl,r4,k4⟩
    go_wp2_with fail
    try simp only[Exit.inBlock,Exit.then]
    refine bodyPost_ret (results_none rfl _ _ _) rfl ?_;rw[Mh.out];obtain⟨a,b⟩:=h3.ends r4 k4;exact⟨rfl,col,a,(cu.ext yu).trans b⟩
   ·have Mh:Hid (Pl.jT m l=Pl.fV {m with rows:=Pl.jL bD.length (f.groups.map (·.rows)),ahead:=Pl.fH m.gap bD f.groups}):=hide (by rw[Jo.out];simp only;rw[if_neg hg0]);have hcnt:=hok.count;have hg3:=hg1.go (S:=fun _=>False) (C':=fun b=>w.heap.size≤b) hx3 (fun _ _ f=>f) (fun _ _ e=>e);have hp3:=hp1.go (S:=fun _=>False) (C':=fun b=>w.heap.size≤b) hx3 (fun _ _ f=>f) (fun _ _ e=>e);have Ii:bD.length≤4:=by rw[Jp.out.1];exact hwant
    have hfr:∀u,Ext w u→(∃a b c d e,u.cell? ⟨P,14,none⟩=some a∧u.cell? ⟨P,15,none⟩=some b∧u.cell? ⟨P,16,none⟩=some c∧u.cell? ⟨P,17,none⟩=some d∧u.cell? ⟨P,18,none⟩=some e)∧u.frozen? ⟨P,14,none⟩=false∧u.frozen? ⟨P,15,none⟩=false∧u.frozen? ⟨P,16,none⟩=false∧u.frozen? ⟨P,17,none⟩=false∧u.frozen? ⟨P,18,none⟩=false:=fun u hu=>by
     have hb:=(h.ext hu).blk;exact⟨⟨_,_,_,_,_,hb.cell 14,hb.cell 15,hb.cell 16,hb.cell 17,hb.cell 18⟩,hb.free 14,hb.free 15,hb.free 16,hb.free 17,hb.free 18⟩
    have Uj:=hide hfr;clear hfr;have HL:=hide (OD _ w3 _ bJ f.groups f.names.length hg3 hp3 af);have hgi:¬((f.groups.length:Nat):Int)=0:=af
    go_wp2_with fail
    refine(bH HL).mono ?_;rintro e w4 ⟨lv,rfl,x4,r4⟩
    go_wp2_with fail
    have hls:bM (fun b=>w3.heap.size≤b) false w4 1 lv (f.groups.map (·.rows)).length ((f.groups.map (·.rows)).map fun n:Nat=>I n):=by
     rw[aQ,List.map_map];exact r4
    refine(OH _ w4 bD.length lv (f.groups.map (·.rows)) hls (by rw[aQ];omega) af (fun n hn=>by
     rw[List.mem_map]at hn;obtain⟨g,hg,rfl⟩:=hn;have:=(hok.groups g hg).BM;omega)).mono ?_
    rintro e w5 ⟨gv5,bs,rfl,x5,hbl,FY,Xw,hnd,H9⟩;have Mi:Ext w w5:=(yu.trans x4).trans x5;obtain⟨⟨y0,y1,y2,y3,y4,y14,y15,y16,y17,y18⟩,z14,z15,z16,z17,z18⟩:=(bH Uj) w5 Mi;have h5:=h.ext Mi;rw[aQ]at FY hbl;obtain⟨DN,DR,rfl,-⟩:=FY.shape;have zw:Hid (∀u,Ext w u→u.cell? ⟨P,6,none⟩=some (.int .i64 m.gap)):=hide fun u hu=>hu.cell s6 id
    simp only[I]
    go_wp2_with fail
    have hb5:=((((h5.blk.set 14 (.int .i64 bD.length)).set 15 (.slice DN f.groups.length DR)).set 16 (.int .i64 0)).set 17 (.int .i64 0)).set 18 (.int .i64 ((f.groups.map (·.rows)).sum:Nat));have hce:((((((dw P m (.slice na m.want.length nc) av wv hv gv).set 14 (.int .i64 bD.length)).set 15 (.slice DN f.groups.length DR)).set 16 (.int .i64 0)).set 17 (.int .i64 0)).set 18 (.int .i64 ((f.groups.map (·.rows)).sum:Nat)))=dw P {m with rows:=Pl.jL bD.length (f.groups.map (·.rows))} (.slice na m.want.length nc) av wv hv (.slice DN f.groups.length DR):=by simp[dw,Pl.jL,I,lT]
    rw[hce]at hb5;have k6:Kp (fun k=>k=P) w5 (((((w5.setCell ⟨P,14,none⟩ (.int .i64 bD.length)).setCell ⟨P,15,none⟩ (.slice DN f.groups.length DR)).setCell ⟨P,16,none⟩ (.int .i64 0)).setCell ⟨P,17,none⟩ (.int .i64 0)).setCell ⟨P,18,none⟩ (.int .i64 ((f.groups.map (·.rows)).sum:Nat))):=((((bI _ _ _ _).trans (bI _ _ _ _)).trans (bI _ _ _ _)).trans (bI _ _ _ _)).trans (bI _ _ _ _);have hz6:(((((w5.setCell ⟨P,14,none⟩ (.int .i64 bD.length)).setCell ⟨P,15,none⟩ (.slice DN f.groups.length DR)).setCell ⟨P,16,none⟩ (.int .i64 0)).setCell ⟨P,17,none⟩ (.int .i64 0)).setCell ⟨P,18,none⟩ (.int .i64 ((f.groups.map (·.rows)).sum:Nat))).heap.size=w5.heap.size:=aj;have HZ6:=hide hz6;clear hz6 hce y14 y15 y16 y17 y18 z14 z15 z16 z17 z18;generalize((((w5.setCell ⟨P,14,none⟩ (.int .i64 bD.length)).setCell ⟨P,15,none⟩ (.slice DN f.groups.length DR)).setCell ⟨P,16,none⟩ (.int .i64 0)).setCell ⟨P,17,none⟩ (.int .i64 0)).setCell ⟨P,18,none⟩ (.int .i64 ((f.groups.map (·.rows)).sum:Nat))=W6 at*;have Di:P<w.heap.size:=h.blk.lt;have Jl:Ext w3 w5:=x4.trans x5;have Y1:Kp (fun k=>k=P) w W6:=(Kp.cZ Mi).trans k6;have c6:W6.cell? ⟨P,6,none⟩=some (.int .i64 m.gap):=hb5.cell 6;have c12:W6.cell? ⟨P,12,none⟩=some hv:=hb5.cell 12;have f12:=hb5.free 12;have cF:W6.cell? ⟨w1.heap.size,1,none⟩=some (.slice F5 f.groups.length F6):=k6.cell (Jl.cell q2 id) (by have:=x1.size;show¬w1.heap.size=P;omega);have lW:∀u,Ext W6 u→u.cell? ⟨P,6,none⟩=some (.int .i64 m.gap)∧u.cell? ⟨w1.heap.size,1,none⟩=some (.slice F5 f.groups.length F6):=fun u hu=>⟨hu.cell c6 id,hu.cell cF id⟩
    have Af:=hide lW;clear lW zw;have hx6:Ext W6 W6.drew:=ax.drew;have k3d:Kp (fun k=>k=P) w3 W6.drew:=((Kp.cZ Jl).trans k6).trans (Kp.cZ hx6);have hPC:∀i,w.heap.size≤i→¬i=P:=fun i hi e=>af
    have hM:∀g∈f.groups,Pl.Ig 1000000 g:=fun g hg p hp=>by have:=(hok.groups g hg).ends p hp;omega
    have HOF:=hide (ab3 (fun b=>w.heap.size≤b) (fun b=>W1.drew.heap.size≤b) W6.drew _ _ bJ f.groups bD f.names.length m.gap (hg3.go k3d hPC (fun _ _ e=>e)) (hp3.go k3d hPC (fun _ _ e=>e)) (hrc.go k3d (fun i hi e=>by have:=xa.size;have:W1.heap.size≤i:=hi;omega) (fun _ _ e=>e)) h0c af Jp.out.2.2.1 af af af hM);refine bZ (n:=12) (Ext W6) (by kernel_rfl) ?_;refine Late.h Af 0 [12] rfl hx6 ?_;refine Late.h Af 1 [12] rfl hx6 ?_;refine Late.h Af 2 [12] rfl hx6 ?_;refine Late.h Af 3 [12] rfl hx6 ?_;refine Late.h Af 4 [12] rfl hx6 ?_;refine Late.h Af 5 [12] rfl hx6 ?_;refine Late.h Af 6 [12] rfl hx6 ?_;refine Late.h Af 7 [12] rfl hx6 ?_;refine Late.h Af 8 [12] rfl hx6 ?_;refine Late.o 9 rfl (fun K hK=>?_);refine fe rfl 124 #[.slice F5 f.groups.length F6,.slice oZ bD.length Po,.int .i64 m.gap] (by go_simp) ?_;refine(bH HOF).mono ?_;rintro e w7 ⟨pv7,rfl,x7,hp7⟩;have hx7:Ext W6 w7:=hx6.trans x7;have aiI:=hp7;obtain⟨aiJ,ab9,aiK⟩:=aiI;obtain⟨Mj,Mk,rfl,-,-⟩:=ab9.get;refine⟨_,rfl,hK _ _ (fun _=>hx7) ?_⟩;clear hK K;try simp only[lX]
    have QY:=hx7.cell c12 id;have Q0:w7.frozen? ⟨P,12,none⟩=false:=by rw[World.frozen?_of_block (w:=W6) (a:=⟨P,12,none⟩) (hx7.block P hb5.lt id)];exact f12
    refine Late.o 10 rfl (fun K hK=>?_);go_simp;refine hK _ _ (fun _=>hx7) ?_;clear hK K;try simp only[lX]
    refine Late.o 11 rfl (fun K hK=>?_);go_simp;refine hK _ _ (fun _=>hx7) ?_;clear hK K;try simp only[lX]
    refine Late.o 12 rfl (fun K hK=>?_);go_simp;refine hK _ _ (fun h=>absurd rfl h) ?_;clear hK K;try simp only[lX]
    refine Late.done (by kernel_rfl) ?_ _;have Uk:=(hb5.kept hx7 id).set 12 (.slice Mj (Pl.fH m.gap bD f.groups).length Mk);have hce:(dw P {m with rows:=Pl.jL bD.length (f.groups.map (·.rows))} (.slice na m.want.length nc) av wv hv (.slice DN f.groups.length DR)).set 12 (.slice Mj (Pl.fH m.gap bD f.groups).length Mk)=dw P {m with rows:=Pl.jL bD.length (f.groups.map (·.rows)),ahead:=Pl.fH m.gap bD f.groups} (.slice na m.want.length nc) av wv (.slice Mj (Pl.fH m.gap bD f.groups).length Mk) (.slice DN f.groups.length DR):=by simp[dw,lT]
    rw[hce]at Uk;have k8:=bI w7 P 12 (.slice Mj (Pl.fH m.gap bD f.groups).length Mk);have hz8:(w7.setCell ⟨P,12,none⟩ (.slice Mj (Pl.fH m.gap bD f.groups).length Mk)).heap.size=w7.heap.size:=size_set _ _ _;have HZ8:=hide hz8;clear hz8 hce QY Q0 c12 f12;generalize w7.setCell ⟨P,12,none⟩ (.slice Mj (Pl.fH m.gap bD f.groups).length Mk)=W8 at*;have k58:Kp (fun k=>k=P) w5 W8:=(k6.trans (Kp.cZ hx7)).trans k8;have anb:w.heap.size≤w4.heap.size:=aO yu.size x4.size;have hrep:=Xv (bD:=bD.length) (bs:=bs) (ls:=f.groups.map (·.rows)) (pF:=Pl.fH m.gap bD f.groups) (jN:=.slice DN f.groups.length DR) (hv':=.slice Mj (Pl.fH m.gap bD f.groups).length Mk) w5.heap.size h ((Y1.trans (Kp.cZ hx7)).trans k8) k58.size Mi.size Uk (by rw[aQ];exact FY.kept k58 (fun g e he=>by have:=(Xw g e).1;omega)) (by rw[aQ];exact hbl) (fun g e=>⟨by have:=(Xw g e).1;omega,(Xw g e).2,FY.lt e⟩) hnd (fun b hb=>⟨by have:=(H9 b hb).1;omega,(H9 b hb).2.lt,(H9 b hb).2.kept k58 (by have:=(H9 b hb).1;omega)⟩) ⟨aiJ,ab9.go k8 (fun i hi e=>by have:W6.heap.size≤i:=hi;have:=Y1.size;omega) (fun i _ hi=>by have:W6.heap.size≤i:=hi;have:=HZ6.out;omega),aiK.go k8 (fun i hi e=>by have:W6.heap.size≤i:=hi;have:=Y1.size;omega) (fun i _ hi=>by have:W6.heap.size≤i:=hi;have:=HZ6.out;omega)⟩;have afd:EJ {m with rows:=Pl.jL bD.length (f.groups.map (·.rows)),ahead:=Pl.fH m.gap bD f.groups}:=by
     have hpl:=BO m.gap bD f.groups f.groups.length;have hpl':(Pl.fH m.gap bD f.groups).length≤24:=aO hpl (aO (Nat.mul_le_mul (show f.groups.length≤6 from af) Ii) af);refine⟨hsz,?_,?_,hwin,?_,fun p hp=>?_⟩
     ·show m.bW+(Pl.fH m.gap bD f.groups).length≤_;omega
     ·show m.asked.length+(Pl.fH m.gap bD f.groups).length≤_;omega
     ·show m.opened+(Pl.fH m.gap bD f.groups).length≤_;omega
     ·have:=(Pl.DL m.gap foot bD f.names.length f.groups hok.groups Jp.out.2.2.1 f.groups.length (aK _) p hp).1.ends;omega
    have HAA:=hide (BD _ W8 P _ hrep.is afd);have afe:cu col w W8 (l5 col w.heap.size W8.heap.size (.slice DN f.groups.length DR) bs):=⟨((Y1.trans (Kp.cZ hx7)).trans k8).mono (fun i _ hi=>by show col i≠.out;rw[hi,h.inn.cB];simp),fun i hi=>by unfold l5;rw[if_pos hi]⟩
    go_wp2_with fail
    refine(bH HAA).mono ?_;rintro e w9 ⟨rfl,c9,s9,g9⟩
    go_wp2_with fail
    go_end0
    rw[Mh.out];exact⟨rfl,c9,s9,afe.trans g9⟩
end Go.Proofs.YthicgffppmbamaaGreat
