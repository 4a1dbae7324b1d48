import Derived.Test.YthicgffppmbamaaGreatP4
import Derived.Test.YthicgffppmbamaaGreatP6
set_option maxRecDepth 100000
set_option maxHeartbeats 16000000
namespace Go.Proofs.YthicgffppmbamaaGreat
open Go.RowKit
def BP (p:Pl.Piece)(data:List UInt8):List Pl.cK→Pl.Rw→Prop
 |[],_=>True
 |x::t,r=>∀l,Pl.uz p x data=some l→(r.gone≤x.group∧∃G,r.groups[x.group-r.gone]?=some G∧x.column<G.lists.length∧1≤G.missing∧G.missing≤1000000)∧BP p data t (Pl.kz r x.group x.column l)
structure Xx (p:Pl.Piece)(n:Nat)(x:Pl.cK):Prop where
 first:p.place≤x.page.place
 len:1≤x.page.length
 ends:x.page.place+x.page.length≤p.place+n
 place:x.page.place≤1000000
 KH:1≤x.rows
 BM:x.rows≤20
 sum:x.page.sum<4294967296
 group:x.group≤1000000
 column:x.column≤1000000
theorem BQ (r:Pl.Rw)(g c:Nat)(l:List Int):(Pl.kz r g c l).groups.length=r.groups.length:=by simp[Pl.kz]
theorem OM (C:Nat→Prop)(col:bU)(w:World)(P:Nat)(m:Pl.Sc)(ps qs:List Nat)(nv av wv hv gv:Value)(h:fA col w P m ps qs nv av wv hv gv)(p:Pl.Piece)(pv v:Value)(l:List UInt8)(hpg:oG col w pv p.pages)(hC:∀i,C i→i<w.heap.size∧¬nG col i)(hr:bM C false w 1 v l.length (l.map B))(hl:l.length≤1000000)(hok:∀x∈p.pages,Xx p l.length x)(hpl:p.pages.length≤1000)(hput:BP p l p.pages m.rows)(hgl:m.rows.groups.length≤1000000)(hop:1≤m.opened)(hf:EJ {m with opened:=m.opened-1}):
 Calls Tryz.prog 149 #[.agg #[PtrTo P 0,I p.place,I p.length,pv],v] w fun e w'=>e=.returned (.tuple #[])∧∃bV,iW bV w' P (Pl.kX m p l)∧cu col w w' bV:=by
 have ace:=hpg;obtain⟨pa,pc,rfl,hpc,hp3⟩:=bM.get ace;clear ace;have hr0:=hr;obtain⟨va,vc,rfl,-,-⟩:=hr0.get;clear hr0;have bA:=bK.bO w [PtrTo P 0,I p.place,I p.length,.slice pa p.pages.length pc] 237;have x0:Ext w (w.alloc (.cells #[PtrTo P 0,I p.place,I p.length,.slice pa p.pages.length pc] 237)):=ax.alloc _;have FT:=h.blk.lt;go_enter Tryz.func149,Tryz.ntmps149
 go_wp2_with fail
 generalize w.alloc (.cells #[PtrTo P 0,I p.place,I p.length,.slice pa p.pages.length pc] 237)=W0 at*;have YN:w.heap.size<W0.heap.size:=bA.lt;have hAo:∀i,w.heap.size≤i→col i=.out:=h.inn.top;have hPc:Hid (Pl.kX m p l=match Pl.mM p l p.pages m.rows with
  |none=>Pl.ended 2
  |some r=>Pl.fV {m with rows:=r,opened:=m.opened-1}):=hide rfl
 go_loopw [12] (fun i wr=>∃(k:Nat)(dH:bU)(rr:Pl.Rw),i=.int .i64 k∧k≤p.pages.length∧fA dH wr P {m with rows:=rr} ps qs nv av wv hv gv∧Pl.mM p l (p.pages.drop k) rr=Pl.mM p l p.pages m.rows∧BP p l (p.pages.drop k) rr∧rr.groups.length=m.rows.groups.length∧Kp (nG col) W0 wr∧(∀i,i<W0.heap.size→dH i=col i)) (fun i _=>p.pages.length-(intOf i).toNat)
 case atStart=>exact⟨0,col,m.rows,rfl,af,h.ext x0,rfl,hput,rfl,Kp.refl _ _,fun _ _=>rfl⟩
 case round=>
  obtain⟨k,dH,rr,rfl,hk,hR,hpf,hpo,hrl,hK,hcs⟩:=hrel;have DT:=hide hpf;clear hpf hput;have hAn:¬nG col w.heap.size:=fun e=>by
   rcases e with e|⟨g,e⟩
   ·rw[hAo _ (aK _)]at e;cases e
   ·rw[hAo _ (aK _)]at e;cases e
  have Ul:=bA.kept hK hAn;have a0:=Ul.cell 0;have a1:=Ul.cell 1;have a2:=Ul.cell 2;have a3:=Ul.cell 3;simp only[au,I]at a0 a1 a2 a3;have hAl:=Ul.lt;have hW:cu col w wr dH:=(cu.ext x0).trans ⟨hK.mono (fun i _ e=>by show col i≠.out;rcases e with e|⟨g,e⟩<;>rw[e]<;>simp),hcs⟩;by_cases hkl:k<p.pages.length
  ·obtain⟨b,off,rfl,hb,hcc⟩:=hp3 af;have aiL:¬nG col b:=by
    obtain⟨-,ao,cap',e,-,h9⟩:=hpg;cases e;obtain⟨b',o',e',hb',-,-,-⟩:=h9 af;cases e';intro e;rcases e with e|⟨g,e⟩
    ·rw[hb']at e;cases e
    ·rw[hb']at e;cases e
   have hck:∀j,j<6→wr.cell? ⟨b,off+(k*6+j),none⟩=(b_ p.pages[k])[j]?:=fun j hj=>by
    have e2:=(hcc (k*6+j) af).trans (wF p.pages k j hkl hj);have:j<(b_ p.pages[k]).length:=hj;rw[ay this]at e2⊢;exact hK.cell (x0.cell e2 id) aiL
   have d0:=hck 0 af;have d1:=hck 1 af;have d2:=hck 2 af;have d3:=hck 3 af;have d4:=hck 4 af;have d5:=hck 5 af;have hx:=hok p.pages[k] (aJ hkl);have hdk:=aV hkl;rw[hdk]at hpo;have PU:Hid (Pl.mM p l p.pages m.rows=match Pl.uz p p.pages[k] l with
    |none=>none
    |some xs=>Pl.mM p l (p.pages.drop (k+1)) (Pl.kz rr p.pages[k].group p.pages[k].column xs)):=hide (by rw[←DT.out,hdk];rfl)
   generalize p.pages[k]=x at*;simp only[b_,I,au,Nat.add_zero,←Nat.add_assoc]at d0 d1 d2 d3 d4 d5;clear hck hcc hp3 hdk DT
   go_wp2_with fail
   have xB:Ext wr (wr.alloc (.cells #[.int .i64 x.page.place,.int .i64 x.page.length,.int .u32 x.page.sum,.int .i64 x.group,.int .i64 x.column,.int .i64 x.rows] 253)):=ax.alloc _;have bB:=bK.bO wr [.int .i64 x.page.place,.int .i64 x.page.length,.int .u32 x.page.sum,.int .i64 x.group,.int .i64 x.column,.int .i64 x.rows] 253;generalize wr.alloc (.cells #[.int .i64 x.page.place,.int .i64 x.page.length,.int .u32 x.page.sum,.int .i64 x.group,.int .i64 x.column,.int .i64 x.rows] 253)=W1 at*;have aff:bM C false W1 1 (.slice va l.length vc) l.length (l.map B):=((hr.go (S:=fun _=>False) (C':=C) x0 (fun _ _ f=>f) (fun _ _ e=>e)).go (C':=C) hK (fun i hi=>(hC i hi).2) (fun _ _ e=>e)).go (S:=fun _=>False) (C':=C) xB (fun _ _ f=>f) (fun _ _ e=>e);refine(KC C W1 w.heap.size 1 p.place x.page.place x.page.length x.page.sum x.group x.column x.rows _ l (fun i hi=>by have:=(hC i hi).1;have:=x0.size;have:=hK.size;have:=xB.size;omega) (xB.cell a1 id) aff hl hx.first hx.len hx.ends hx.place hx.KH hx.BM hx.sum).mono ?_;rintro e w2 ⟨x2,hsd⟩;have Ro:lN W1 w2 x.rows (Pl.uz p x l) e:=hsd;clear hsd;have PV:Ext wr w2:=xB.trans x2;cases hrw:Pl.uz p x l with
   |none=>
    rw[hrw]at Ro PU;cases Ro;have Mh:Hid (Pl.kX m p l=Pl.ended 2):=hide (by rw[hPc.out,PU.out]);have hR2:=hR.ext PV;have a0':=PV.cell a0 id
    go_wp2_with fail
    refine(pY dH w2 P _ (lV _ _ _ _ _ _ _) 2 (by decide) hR2.blk hR2.inn.cB hR2.inn.top).mono ?_;rintro e w4 ⟨rfl,r4,k4⟩
    go_wp2_with fail
    try simp only[Exit.inBlock,Exit.then]
    refine bodyPost_ret (results_none rfl _ _ _) rfl ?_;rw[Mh.out];obtain⟨a,b⟩:=hR2.ends r4 k4;exact⟨rfl,dH,a,(hW.trans (cu.ext PV)).trans b⟩
   |some xs=>
    rw[hrw]at Ro PU;obtain⟨⟨aiM,G,hG,hGc,hGm,aiN⟩,aiO⟩:=hpo xs hrw;cases Ro with
    |yes gb _ hgb hgB aiP=>
    go_wp2_with fail
    have hgb':wr.heap.size≤gb:=aO xB.size hgb;have anh:=hgB.lt;have hcp:∀i,i<wr.heap.size→fo dH gb (gb+1) .ro i=dH i:=fun i hi=>kH _ _ _ _ _ af
    have hx1:Ext w2 w2.drew:=ax.drew;have xrd:Ext wr w2.drew:=PV.trans hx1;have uR:fA (fo dH gb (gb+1) .ro) w2.drew P {m with rows:=rr} ps qs nv av wv hv gv:=⟨hR.blk.kept xrd id,hR.inn.go xrd hR.blk.lt (fun _ f=>f.elim) hcp (fun i hi=>by
     have hi':w2.heap.size≤i:=hi;rw[nS _ _ _ _ _ af];exact hR.inn.top i (aO PV.size hi'))⟩
    have hS:∀u,Ext w2 u→u.cell? ⟨w.heap.size,0,none⟩=some (PtrTo P 0)∧u.cell? ⟨wr.heap.size,3,none⟩=some (.int .i64 x.group)∧u.cell? ⟨wr.heap.size,4,none⟩=some (.int .i64 x.column):=fun u hu=>⟨(PV.trans hu).cell a0 id,(x2.trans hu).cell (bB.cell 3) id,(x2.trans hu).cell (bB.cell 4) id⟩
    have HS:=hide hS;clear hS;have Ja:bM (fun b=>fo dH gb (gb+1) .ro b=.ro) false w2.drew 1 (.slice (some ⟨gb,0,none⟩) x.rows x.rows) xs.length (xs.map I):=by
     have hb2:=hgB.kept hx1 id;refine⟨aj,_,x.rows,by rw[aiP],af,fun _=>⟨gb,0,rfl,nT _ _ _ _ _ (aK _) af,hb2.lt,fun j hj=>?_,fun h=>by cases h⟩⟩;rw[Nat.zero_add];exact hb2.cell j
    have HPA:=hide (aah _ w2.drew P {m with rows:=rr} ps qs nv av wv hv gv uR x.group x.column (x.group-rr.gone) G _ xs Ja (by show rr.gone+(x.group-rr.gone)=x.group;omega) hG hx.group hGc hx.column hGm aiN (by show rr.groups.length≤_;omega));clear hG aiM;refine bZ (n:=9) (Ext w2) (by kernel_rfl) ?_;refine Late.h HS 0 [1,2,3,9] rfl hx1 ?_;refine Late.h HS 1 [2,3,9] rfl hx1 ?_;refine Late.h HS 2 [3,9] rfl hx1 ?_;refine Late.h HS 3 [9] rfl hx1 ?_;refine Late.h HS 4 [5,9] rfl hx1 ?_;refine Late.h HS 5 [9] rfl hx1 ?_;refine Late.h HS 6 [7,9] rfl hx1 ?_;refine Late.h HS 7 [9] rfl hx1 ?_;refine Late.h HS 8 [9] rfl hx1 ?_;refine Late.o 9 rfl (fun K hK=>?_);refine fe rfl 170 #[PtrTo P 14,.int .i64 x.group,.int .i64 x.column,.slice (some ⟨gb,0,none⟩) x.rows x.rows] (by go_simp) ?_;refine(bH HPA).mono ?_;rintro e w3 ⟨rfl,r3,k3⟩;refine⟨_,rfl,hK _ _ (fun h=>absurd rfl h) ?_⟩;clear hK K;try simp only[lX]
    refine Late.done (by kernel_rfl) ?_ _
    go_wp2_with fail
    refine⟨⟨k+1,_,Pl.kz rr x.group x.column xs,by go_num,af,r3,PU.out.symm,aiO,by rw[BQ];exact hrl,?_,fun i hi=>?_⟩,by simp[intOf];omega⟩
    ·refine(hK.trans (Kp.cZ xrd)).then k3 (fun i hi e=>?_);have:fo dH gb (gb+1) .ro i=col i:=by rw[hcp i (aY hi hK.size),hcs i hi]
     unfold nG at e⊢;rw[←this];exact e
    ·rw[hcp i (aY hi hK.size),hcs i hi]
  ·obtain rfl:k=p.pages.length:=af;have Mh:Hid (Pl.kX m p l=Pl.fV {m with rows:=rr,opened:=m.opened-1}):=hide (by
    rw[hPc.out,←DT.out,List.drop_length];rfl)
   have c13:=hR.blk.cell 13;have f13:=hR.blk.free 13;simp only[dw,I,au]at c13;have hin:Inner dH wr P {m with rows:=rr,opened:=m.opened-1} ps qs nv av wv hv gv:=⟨hR.inn.cB,hR.inn.top,hR.inn.names,hR.inn.asked,hR.inn.jd,hR.inn.eY,hR.inn.waiting,hR.inn.jW,hR.inn.gI,hR.inn.nodup,hR.inn.ahead,hR.inn.groups⟩
   have hoi:((m.opened:Int)-1)=((m.opened-1:Nat):Int):=af;have r4:=hR.cellP 13 (.int .i64 ((m.opened:Int)-1)) (m':={m with rows:=rr,opened:=m.opened-1}) (by simp[dw,I,lT,hoi]) hin;have k4:=bI wr P 13 (.int .i64 ((m.opened:Int)-1));have a0':(wr.setCell ⟨P,13,none⟩ (.int .i64 ((m.opened:Int)-1))).cell? ⟨w.heap.size,0,none⟩=some (PtrTo P 0):=k4.cell a0 (by show¬w.heap.size=P;omega);have hf':EJ {m with rows:=rr,opened:=m.opened-1}:=⟨hf.size,hf.bW,hf.asked,hf.win,hf.opened,hf.ahead⟩
   have HAA:=hide (BD dH _ P _ r4.is hf');have hw4:cu dH wr (wr.setCell ⟨P,13,none⟩ (.int .i64 ((m.opened:Int)-1))) dH:=⟨k4.mono (fun i _ hi=>by show dH i≠.out;rw[hi,hR.inn.cB];simp),fun _ _=>rfl⟩
   have hfo:m.opened≤1001:=by have:=hf.opened;simp at this;omega
   clear hoi hf hf' hin r4
   go_wp2_with fail
   refine(bH HAA).mono ?_;rintro e w9 ⟨rfl,c9,s9,g9⟩
   go_wp2_with fail
   go_end0
   rw[Mh.out];exact⟨rfl,c9,s9,(hW.trans hw4).trans g9⟩
end Go.Proofs.YthicgffppmbamaaGreat
