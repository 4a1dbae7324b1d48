import Derived.Deep.CutRange
import Derived.BigQuiet
import Derived.Deep.QuietTactic
import Derived.Test.YthicgffppmbamaaGreatP1
set_option maxRecDepth 100000
set_option maxHeartbeats 16000000
namespace Go.Proofs.YthicgffppmbamaaGreat
open Go.RowKit
theorem TJ {u w':World}(x:Ext u w'):∀b o,b<u.heap.size→w'.cell? ⟨b,o,none⟩=u.cell? ⟨b,o,none⟩:=fun b o h=>World.cell?_of_block (w:=u) (a:=⟨b,o,none⟩) (x.block b h id)
abbrev T (l:List UInt8):Value:=.string ⟨l.toArray⟩
theorem C8 (x:Int)(hx:0≤x)(hx2:x<256):∀(u:World)(a:Addr),u.cell? a=some (.int .u8 x)→(convert 76 9 (.slice (some a) 1 1)).run Tryz.prog u=.ok (T [UInt8.ofNat x.toNat]) u:=by
 intro u a h;have hb:(UInt8.ofNat x.toNat).toNat=x.toNat:=by rw[UInt8.toNat_ofNat',Nat.mod_eq_of_lt af]
 refine run_convert_bytes_back (P:=Tryz.prog) u _ _ 5 a 1 [UInt8.ofNat x.toNat] Tryz.underlying76 Tryz.underlying5 Tryz.underlying9 (fun j hj=>?_);have hj0:j=0:=by simp at hj;omega
 subst hj0;rw[show a.add 0=a by simp[Addr.add],h];simp only[List.getElem_cons_zero];rw[hb,Int.toNat_of_nonneg hx]
theorem QW (f:Nat):∀(n:Int)(w:World),0≤n→n≤1099511627775→n≤f→
 Calls Tryz.prog 72 #[.int .i64 n] w fun e w'=>e=.returned (T (Pl.dG n.toNat))∧Ext w w':=by
 induction f with
 |zero=>
  intro n w h0 h1 h2;obtain rfl:n=0:=af;have hcv:=C8 0 af af;go_enter Tryz.func72,Tryz.ntmps72;go_wp2;go_ret;exact⟨rfl,ax.alloc _⟩
 |succ f ih=>
  intro n w h0 h1 h2;by_cases h128:n<128
  ·have hcv:=C8 n af af;go_enter Tryz.func72,Tryz.ntmps72;go_wp2;go_ret;exact⟨by rw[Pl.CR _ af];rfl,ax.alloc _⟩
  ·have IH:=hide ih;clear ih;have hv:=Pl.Hf n.toNat af;obtain⟨q,hq⟩:∃q,q=n/128:=⟨_,rfl⟩
   obtain⟨c,hc⟩:∃c,c=n%128+128:=⟨_,rfl⟩
   have e1:IntKind.i64.wrap (n.tdiv 128)=q:=by
    rw[Int.tdiv_eq_ediv_of_nonneg h0,hq];simp[IntKind.wrap,IntKind.bits,IntKind.signed];omega
   have e2:IntKind.u8.wrap (IntKind.i64.wrap (n.tmod 128+128))=c:=by
    rw[Int.tmod_eq_emod_of_nonneg h0,hc];simp[IntKind.wrap,IntKind.bits,IntKind.signed];omega
   have b1:0≤q∧q≤1099511627775∧q≤f:=af;have b2:0≤c∧c<256:=af;have hcv:=C8 c b2.1 b2.2;have HV:Hid (Pl.dG n.toNat=UInt8.ofNat c.toNat::Pl.dG q.toNat):=by
    show _=_;rw[hv,show n.toNat%128+128=c.toNat from af,show n.toNat/128=q.toNat from af]
   have hl:=Pl.eB 5 q.toNat (by simp;omega);clear hq hc hv;go_enter Tryz.func72,Tryz.ntmps72
   go_wp2_with fail
   go_region_with (go_at_call 72;go_must (refine((bH IH) q _ af af af).mono ?_);rintro e w1 ⟨rfl,x1⟩;have hx:=TJ x1)
   all_goals
    go_wp2_with fail
    go_ret;refine⟨?_,?_⟩
    ·rw[HV.out];show Ending.returned (.string _)=_;simp only[T,Ending.returned.injEq,Value.string.injEq];exact ByteArray.mk_append_mk [UInt8.ofNat c.toNat] (Pl.dG q.toNat)
    ·first
      |exact(ax.drew.alloc _).trans x1
      |exact((ax.drew).trans x1).alloc _
theorem QX (s:ByteArray)(k:Nat)(hk:k<s.size):Pl.sumOf ((bytesOf s).take (k+1))=Pl.qY (Pl.sumOf ((bytesOf s).take k)) s[k]:=by
 rw[Et (bytesOf s) k (by rw[gX];exact hk)];rfl
theorem FQ (s:ByteArray)(w:World)(hs:s.size≤10000):
 Calls Tryz.prog 74 #[.string s] w fun e w'=>e=.returned (T (Pl.oM (bytesOf s)))∧Ext w w':=by
 go_enter Tryz.func74,Tryz.ntmps74;go_wp2
 go_loop [3,4] (fun t i=>∃k:Nat,k≤s.size∧i=.int .i64 k∧t=.int .u32 (Pl.sumOf ((bytesOf s).take k))) (fun _ i=>s.size-(intOf i).toNat)
 case atStart=>exact⟨0,aM _,rfl,rfl⟩
 case round=>
  obtain⟨k,hk,rfl,rfl⟩:=hrel;have hlt:=Pl.sW ((bytesOf s).take k);by_cases hkl:k<s.size
  ·go_wp2_with fail
   go_round
   case rel=>
    refine⟨k+1,af,by go_num,?_⟩;rw[QX s k hkl,←Es _ _ hlt]
   case measure=>simp[intOf];omega
  ·rw[List.take_of_length_le (by rw[gX];omega)]at*;have hcv:∀u:World,(convert 76 9 (.slice (some ⟨u.heap.size,0,none⟩) 4 4)).run Tryz.prog (u.alloc (.cells #[Value.int .u8 ((Pl.sumOf (bytesOf s):Int)/16777216%256),Value.int .u8 ((Pl.sumOf (bytesOf s):Int)/65536%256),Value.int .u8 ((Pl.sumOf (bytesOf s):Int)/256%256),Value.int .u8 ((Pl.sumOf (bytesOf s):Int)%256)] 5))=.ok (T (Pl.oM (bytesOf s))) (u.alloc (.cells #[Value.int .u8 ((Pl.sumOf (bytesOf s):Int)/16777216%256),Value.int .u8 ((Pl.sumOf (bytesOf s):Int)/65536%256),Value.int .u8 ((Pl.sumOf (bytesOf s):Int)/256%256),Value.int .u8 ((Pl.sumOf (bytesOf s):Int)%256)] 5)):=fun u=>
    vY _ _ (Pl.oM (bytesOf s)) (uI u _ 4 _ rfl (IW (bytesOf s)) af) (by rw[Pl.zK];omega)
   clear hlt
   go_wp2_with fail
   go_ret;exact⟨rfl,ax.alloc _⟩
structure qU (col:bU)(w:World)(P:Nat)(m:Pl.Sc)(ps qs:List Nat)(nv av wb wv hv gv:Value):Prop where
 blk:bK w P (dw P m nv av wb hv gv) 142
 inn:Inner col w P m ps qs nv av wv hv gv
theorem qU.ext {col:bU}{w w':World}{P:Nat}{m:Pl.Sc}{ps qs:List Nat}{nv av wb wv hv gv:Value}(h:qU col w P m ps qs nv av wb wv hv gv)(k:Ext w w'):qU col w' P m ps qs nv av wb wv hv gv:=
 ⟨h.blk.kept k id,h.inn.go k h.blk.lt (fun _ f=>f.elim) (fun _ _=>rfl) (fun i hi=>h.inn.top i (aO k.size hi))⟩
theorem qU.cellP {col:bU}{w:World}{P:Nat}{m m':Pl.Sc}{ps qs:List Nat}{nv av wb wv hv gv Bg eZ wv' hv' jN:Value}(h:qU col w P m ps qs nv av wb wv hv gv)(j:Nat)(v:Value)(e:(dw P m nv av wb hv gv).set j v=dw P m' Bg eZ wb hv' jN)(hi:Inner col w P m' ps qs Bg eZ wv' hv' jN):
 qU col (w.setCell ⟨P,j,none⟩ v) P m' ps qs Bg eZ wb wv' hv' jN:=
 ⟨by have:=h.blk.set j v;rw[e]at this;exact this,hi.put (bI w P j v) h.blk.lt⟩
theorem qU.Ho {col:bU}{w u w1:World}{P p:Nat}{m:Pl.Sc}{x:Pl.Part}{ps qs:List Nat}{nv av wb wv hv gv dv xv eZ:Value}(h:qU col w P m ps qs nv av wb wv hv gv)(hp:jU col w P p x dv xv)(hn:p∉ps++qs)(hu:Ext w u)(k:Kp (Of av) u w1)(s:Sep u av eZ)(o:Own w1 5 eZ (m.asked.length+1) (gu ps m.asked++gN p (m.bW,x))):
 qU (fo col w.heap.size w1.heap.size .asked) (w1.setCell ⟨P,10,none⟩ eZ) P {m with asked:=m.asked++[(m.bW,x)]} (ps++[p]) qs nv eZ wb wv hv gv∧cu col w (w1.setCell ⟨P,10,none⟩ eZ) (fo col w.heap.size w1.heap.size .asked)∧Kp (fun k=>k=P∨col k=.asked) w (w1.setCell ⟨P,10,none⟩ eZ):=by
 have kw:Kp (Of av) w w1:=(Kp.cZ hu).trans k;have hc:∀i,i<w.heap.size→fo col w.heap.size w1.heap.size .asked i=col i:=fun i hi=>kH _ _ _ _ _ hi
 have ja:∀i,Of av i→col i=.asked:=fun i hi=>h.inn.jd i hi
 have hcalm:Calm col (Of av):=Calm.one .asked ja aj aj aj aj aj;have r:=h.inn.rest kw hcalm hc;have hp1:=hp.go kw (fun e=>hcalm.part p e hp.cB) (hcalm.data p) hcalm.ro hc;have Bj:=h.blk.lt;have Di:¬Of av P:=fun e=>by have:=ja P e;rw[h.inn.cB]at this;simp at this
 have hb1:=h.blk.kept kw Di;have hin:Inner (fo col w.heap.size w1.heap.size .asked) w1 P {m with asked:=m.asked++[(m.bW,x)]} (ps++[p]) qs nv eZ wv hv gv:=by
  refine⟨by rw[hc P Bj];exact h.inn.cB,fun i hi=>by rw[nS _ _ _ _ _ hi];exact h.inn.top i (aO kw.size hi),r.names,?_,fun g hg=>?_,r.eY.snoc (q:=(m.bW,x)) hp1,?_,fun g hg=>by rw[hc g (h.inn.waiting.lt hg)];exact h.inn.jW g hg,r.gI,?_,r.ahead,r.groups⟩
  ·rw[Dh _ _ _ _ h.inn.eY.1];simpa using o
  ·rcases s with e|⟨g',e1,e2⟩
   ·rw[e]at hg;rw[hc g (h.inn.asked.lt hg)];exact h.inn.jd g hg
   ·rw[e1]at hg;simp only[Option.some.injEq]at hg;subst hg;exact nT _ _ _ _ _ (by have:=hu.size;omega) (o.lt e1)
  ·exact h.inn.waiting.kept kw (fun g hg hs=>by have:=ja g hs;rw[h.inn.jW g hg]at this;simp at this)
  ·have:=h.inn.nodup;rw[aW];refine(List.nodup_append.2 ⟨(List.nodup_append.1 this).1,?_,?_⟩)
   ·simp only[List.singleton_append,List.nodup_cons];exact⟨fun hq=>hn (aI.2 (.inr hq)),(List.nodup_append.1 this).2.1⟩
   ·intro a ha b hb;simp only[List.singleton_append,List.mem_cons]at hb;rcases hb with rfl|hb
    ·exact fun e=>hn (aI.2 (.inl (e▸ha)))
    ·exact(List.nodup_append.1 this).2.2 a ha b hb
 refine⟨⟨?_,hin.put (bI w1 P 10 eZ) hb1.lt⟩,⟨?_,hc⟩,(kw.mono (fun i _ hi=>.inr (ja i hi))).setCell (p:=⟨P,10,none⟩) (.inl (.inl rfl)) eZ⟩
 ·have:=hb1.set 10 eZ;simpa[dw,lT]using this
 ·refine(kw.mono (fun i _ hi=>?_)).setCell (p:=⟨P,10,none⟩) (.inl ?_) eZ
  ·show col i≠.out;rw[ja i hi];simp
  ·show col P≠.out;rw[h.inn.cB];simp
theorem XA (col:bU)(w:World)(P p:Nat)(m:Pl.Sc)(x:Pl.Part)(ps qs:List Nat)(nv av wb wv hv gv dv xv:Value)(h:qU col w P m ps qs nv av wb wv hv gv)(hp:jU col w P p x dv xv)(hn:p∉ps++qs)(hid:m.bW≤1000000000000)(hal:m.asked.length≤1000)(hpl:x.place+x.length≤1000000)(hdl:x.data.length≤x.length):
 Calls Tryz.prog 102 #[PtrTo p 0] w fun e w'=>e=.returned (.tuple #[])∧∃bV eZ,qU bV w' P (Pl.ask m x) (ps++[p]) qs nv eZ wb wv hv gv∧cu col w w' bV∧Kp (fun k=>k=P∨col k=.asked) w w':=by
 have c0:=hp.blk.cell 0;have c1:=hp.blk.cell 1;have c2:=hp.blk.cell 2;have c3:=hp.blk.cell 3;have s9:=h.blk.cell 9;have s10:=h.blk.cell 10;have f9:=h.blk.free 9;have f10:=h.blk.free 10;simp only[kZ,dw,I,au]at c0 c1 c2 c3 s9 s10;obtain⟨da,dc,rfl⟩:=hp.data.shape;obtain⟨aa,ac,rfl,_⟩:=h.inn.asked.shape;have hm1:Inner col w P {m with bW:=m.bW+1} ps qs nv (.slice aa m.asked.length ac) wv hv gv:=⟨h.inn.cB,h.inn.top,h.inn.names,h.inn.asked,h.inn.jd,h.inn.eY,h.inn.waiting,h.inn.jW,h.inn.gI,h.inn.nodup,h.inn.ahead,h.inn.groups⟩
 have h1:=h.cellP 9 (.int .i64 ((m.bW:Int)+1)) (by simp[dw,I,lT]) hm1;have k1:=bI w P 9 (.int .i64 ((m.bW:Int)+1));have YK:p≠P:=fun e=>by have:=hp.cB;rw[e,h.inn.cB]at this;simp at this
 have hp1:=hp.go (bV:=col) k1 (fun e=>YK e) (fun i hi=>by subst hi;rw[h.inn.cB];simp) (fun i hi=>by subst hi;rw[h.inn.cB];simp) (fun _ _=>rfl);have K6:#[Value.int .i64 ((m.bW:Int)+1),Value.int .i64 ((x.place:Int)+(x.data.length:Int)),Value.int .i64 ((x.length:Int)-(x.data.length:Int)),fq 118 (PtrTo p 0),fq 119 (PtrTo p 0)]=(gN p (m.bW+1,x)).toArray:=by
  simp[gN,I];omega
 have hone:∀u∈gN p (m.bW+1,x),u.oneCell'=true:=by
  intro u hu;simp[gN]at hu;rcases hu with rfl|rfl|rfl|rfl|rfl<;>rfl
 go_enter Tryz.func102,Tryz.ntmps102
 go_wp2_with fail
 clear c0 c1 c2 c3 s9 s10 f9 f10 hm1;generalize w.setCell _ _=W1 at*;have hA:∀u,Ext W1 u→Own u 5 (.slice aa m.asked.length ac) m.asked.length (gu ps m.asked):=fun u hu=>h1.inn.asked.ext hu
 have c0:=hp1.blk.cell 0;have c1:=hp1.blk.cell 1;have c2:=hp1.blk.cell 2;have c3:=hp1.blk.cell 3;have s9:=h1.blk.cell 9;have s10:=h1.blk.cell 10;have f10:=h1.blk.free 10;simp only[kZ,dw,I,au,Int.natCast_add,Int.natCast_one]at c0 c1 c2 c3 s9 s10;have HA:=hide hA;clear hA;have ja:∀k,(Value.slice aa m.asked.length ac).ownBlock=some k→k≠p∧k≠P:=fun k hk=>by
  have e:=h1.inn.jd k hk;exact⟨fun e'=>by rw[e',hp1.cB]at e;simp at e,fun e'=>by rw[e',h1.inn.cB]at e;simp at e⟩
 have hS:∀u,Kp (fun k=>k≠p∧k≠P) W1 u→u.cell? ⟨p,0,none⟩=some (PtrTo P 7)∧u.cell? ⟨p,1,none⟩=some (.int .i64 (x.place:Int))∧u.cell? ⟨p,2,none⟩=some (.int .i64 (x.length:Int))∧u.cell? ⟨p,3,none⟩=some (.slice da x.data.length dc)∧u.cell? ⟨P,9,none⟩=some (.int .i64 ((m.bW:Int)+1))∧u.cell? ⟨P,10,none⟩=some (.slice aa m.asked.length ac):=fun u hu=>
  ⟨hu.cell c0 aj,hu.cell c1 aj,hu.cell c2 aj,hu.cell c3 aj,hu.cell s9 aj,hu.cell s10 aj⟩
 have HS:=hide hS;have HV:=hide ja;have HR:=hide K6;have HO:=hide hone;clear hS ja K6 hone;have e1:IntKind.i64.wrap ((x.place:Int)+(x.data.length:Int))=(x.place:Int)+(x.data.length:Int):=by simp[IntKind.wrap,IntKind.bits,IntKind.signed];omega
 have e2:IntKind.i64.wrap ((x.length:Int)-(x.data.length:Int))=(x.length:Int)-(x.data.length:Int):=by simp[IntKind.wrap,IntKind.bits,IntKind.signed];omega
 have hK1:Kp (fun k=>k≠p∧k≠P) W1 W1.drew:=ax.drew;refine bZ (n:=48) (Kp (fun k=>k≠p∧k≠P) W1) (by kernel_rfl) ?_;refine Late.h HS 0 [48] rfl hK1 ?_;refine Late.h HS 1 [48] rfl hK1 ?_;refine Late.h HS 2 [48] rfl hK1 ?_;refine Late.h HS 3 [48] rfl hK1 ?_;refine Late.h HS 4 [48] rfl hK1 ?_;refine Late.h HS 5 [48] rfl hK1 ?_;refine Late.h HS 6 [48] rfl hK1 ?_;refine Late.h HS 7 [48] rfl hK1 ?_;refine Late.h HS 8 [48] rfl hK1 ?_;refine Late.h HS 9 [48] rfl hK1 ?_;refine Late.h HS 10 [48] rfl hK1 ?_;refine Late.h HS 11 [48] rfl hK1 ?_;refine Late.h HS 12 [48] rfl hK1 ?_;refine Late.h HS 13 [48] rfl hK1 ?_;refine Late.h HS 14 [48] rfl hK1 ?_;refine Late.h HS 15 [48] rfl hK1 ?_;refine Late.h HS 16 [48] rfl hK1 ?_;refine Late.h HS 17 [48] rfl hK1 ?_;refine Late.h HS 18 [48] rfl hK1 ?_;refine Late.h HS 19 [48] rfl hK1 ?_;refine Late.h HS 20 [48] rfl hK1 ?_;refine Late.h HS 21 [48] rfl hK1 ?_;refine Late.h HS 22 [48] rfl hK1 ?_;refine Late.h HS 23 [48] rfl hK1 ?_;refine Late.h HS 24 [48] rfl hK1 ?_;refine Late.h HS 25 [48] rfl hK1 ?_;refine Late.h HS 26 [48] rfl hK1 ?_;refine Late.h HS 27 [48] rfl hK1 ?_;refine Late.h HS 28 [48] rfl hK1 ?_;refine Late.h HS 29 [48] rfl hK1 ?_;refine Late.h HS 30 [48] rfl hK1 ?_;refine Late.h HS 31 [48] rfl hK1 ?_;refine Late.h HS 32 [48] rfl hK1 ?_;refine Late.h HS 33 [48] rfl hK1 ?_;refine Late.h HS 34 [48] rfl hK1 ?_;refine Late.h HS 35 [48] rfl hK1 ?_;refine Late.h HS 36 [48] rfl hK1 ?_;refine Late.h HS 37 [48] rfl hK1 ?_;refine Late.h HS 38 [48] rfl hK1 ?_;refine Late.h HS 39 [48] rfl hK1 ?_;refine Late.h HS 40 [48] rfl hK1 ?_;refine Late.h HS 41 [48] rfl hK1 ?_;refine Late.h HS 42 [48] rfl hK1 ?_;refine Late.h HS 43 [48] rfl hK1 ?_;refine Late.o 44 rfl (fun K hK=>?_);go_simp;refine hK _ _ (fun _=>(ax.alloc _).drew) ?_;clear hK K;try simp only[lX]
 refine Late.o 45 rfl (fun K hK=>?_);refine d_ rfl _ _ 133 133 rfl 169 Ev 5 40 Tryz.underlying133 CV rfl _ _ _ (by rfl) ((bH HA) _ (ax.alloc _).drew) _ (by rfl) 1 _ (uK _ _ _ Tryz.underlying133 _ _ (bH HR) (bH HO)) af af ?_;intro v' w1 o2 k2 s2;have k12:Kp (fun k=>k≠p∧k≠P) W1 w1:=(ax.alloc _).drew.trans (k2.mono (fun k _ e=>(bH HV) k e));refine hK _ _ (fun _=>k12) ?_;clear hK K;obtain⟨a',c',rfl,hc'⟩:=o2.shape;try simp only[lX]
 have Ew:w1.cell? ⟨P,10,none⟩=some (.slice aa m.asked.length ac):=k12.cell s10 aj;have WM:w1.frozen? ⟨P,10,none⟩=false:=by rw[World.frozen?_of_block (w:=W1) (a:=⟨P,10,none⟩) (k12.block P h1.blk.lt aj)];exact f10
 refine Late.o 46 rfl (fun K hK=>?_);go_simp;refine hK _ _ (fun _=>k12) ?_;clear hK K;try simp only[lX]
 refine Late.o 47 rfl (fun K hK=>?_);go_simp;refine hK _ _ (fun _=>k12) ?_;clear hK K;try simp only[lX]
 refine Late.o 48 rfl (fun K hK=>?_);go_simp;refine hK _ _ (fun h=>absurd rfl h) ?_;clear hK K;try simp only[lX]
 refine Late.done (by kernel_rfl) ?_ _
 go_end0
 have hw1:cu col w W1 col:=⟨(k1.mono (fun i _ hi=>by show col i≠.out;rw[hi,h.inn.cB];simp)),fun _ _=>rfl⟩
 obtain⟨r1,r2,r3⟩:=h1.Ho hp1 hn ((ax.alloc _).drew) k2 s2 o2;exact⟨rfl,_,_,r1,hw1.trans r2,(k1.mono (fun _ _ e=>.inl e)).trans r3⟩
def LI (w:World)(b:Nat)(xs:List Int):Prop:=bK w b (xs.map I++[I 0,I 0]) 3
def qx (bs:List Nat)(g:List (List Int)):List Value:=List.zipWith (fun b xs=>sl b xs.length) bs g
structure LG (w:World)(b:Nat)(bs:List Nat)(g:List (List Int)):Prop where
 blk:bK w b (qx bs g++[g_,g_]) 46
 len:bs.length=g.length
 each:∀(i:Nat)(b':Nat)(xs:List Int),bs[i]?=some b'→g[i]?=some xs→LI w b' xs
def qy (dD:List (Nat×List Nat))(gs:List (List (List Int))):List Value:=List.zipWith (fun p g=>sl p.1 g.length) dD gs
def flat (dD:List (Nat×List Nat)):List Nat:=dD.flatMap (·.2)
structure qX (w:World)(bN bG:Nat)(dD:List (Nat×List Nat))(ss:List ByteArray)(gs:List (List (List Int))):Prop where
 names:bK w bN (ss.map Value.string++[.string ByteArray.empty,.string ByteArray.empty]) 9
 top:bK w bG (qy dD gs++[g_,g_]) 51
 len:dD.length=gs.length
 group:∀(j:Nat)(p:Nat×List Nat)(g:List (List Int)),dD[j]?=some p→gs[j]?=some g→LG w p.1 p.2 g
 nodup:(flat dD).Nodup
structure Small (ss:List ByteArray)(gs:List (List (List Int))):Prop where
 names:ss.length≤8796093021952
 groups:gs.length≤5864062014634
 group:∀g∈gs,g.length≤5864062014634
 list:∀g∈gs,∀l∈g,l.length≤17592186043904
structure St (w:World)(P:Nat)(nv gv on og:Value):Prop where
 box:bK w P [nv,gv] 42
 res:bK w (P+1) [g_,g_] 42
 out:bK w (P+2) [on,og] 42
theorem St.kept {S:Nat→Prop}{w w':World}{P:Nat}{nv gv on og:Value}(h:St w P nv gv on og)(k:Kp S w w')(hn:∀i,S i→P+2<i):St w' P nv gv on og:=
 ⟨h.box.kept k (fun e=>by have:=hn _ e;omega),h.res.kept k (fun e=>by have:=hn _ e;omega),h.out.kept k (fun e=>by have:=hn _ e;omega)⟩
theorem St.RL {w:World}{P:Nat}{nv gv on og:Value}(h:St w P nv gv on og)(v:Value):St (w.setCell ⟨P+2,0,none⟩ v) P nv gv v og:=
 ⟨h.box.kept (bI w (P+2) 0 v) af,h.res.kept (bI w (P+2) 0 v) af,h.out.set 0 v⟩
theorem St.ajx {w:World}{P:Nat}{nv gv on og:Value}(h:St w P nv gv on og)(v:Value):St (w.setCell ⟨P+2,1,none⟩ v) P nv gv on v:=
 ⟨h.box.kept (bI w (P+2) 1 v) af,h.res.kept (bI w (P+2) 1 v) af,h.out.set 1 v⟩
theorem St.b0 {w:World}{P:Nat}{nv gv on og:Value}(h:St w P nv gv on og):w.cell? ⟨P,0,none⟩=some nv:=h.box.cell 0
theorem St.b1 {w:World}{P:Nat}{nv gv on og:Value}(h:St w P nv gv on og):w.cell? ⟨P,1,none⟩=some gv:=h.box.cell 1
theorem St.o0 {w:World}{P:Nat}{nv gv on og:Value}(h:St w P nv gv on og):w.cell? ⟨P+2,0,none⟩=some on:=h.out.cell 0
theorem St.o1 {w:World}{P:Nat}{nv gv on og:Value}(h:St w P nv gv on og):w.cell? ⟨P+2,1,none⟩=some og:=h.out.cell 1
theorem St.f0 {w:World}{P:Nat}{nv gv on og:Value}(h:St w P nv gv on og):w.frozen? ⟨P+2,0,none⟩=false:=h.out.free 0
theorem St.f1 {w:World}{P:Nat}{nv gv on og:Value}(h:St w P nv gv on og):w.frozen? ⟨P+2,1,none⟩=false:=h.out.free 1
theorem aeA (w:World)(nv gv:Value):St (((w.alloc (.cells #[nv,gv] 42)).alloc (.cells #[g_,g_] 42)).alloc (.cells #[g_,g_] 42)) w.heap.size nv gv g_ g_:=by
 have h1:=bK.bO w [nv,gv] 42;have h2:=bK.bO (w.alloc (.cells #[nv,gv] 42)) [g_,g_] 42;have h3:=bK.bO ((w.alloc (.cells #[nv,gv] 42)).alloc (.cells #[g_,g_] 42)) [g_,g_] 42;simp only[World.size_alloc]at h2 h3;refine⟨(h1.kept ((Kp.refl (fun _=>False) _).alloc _) id).kept ((Kp.refl (fun _=>False) _).alloc _) id,h2.kept ((Kp.refl (fun _=>False) _).alloc _) id,h3⟩
theorem Sw :(Tryz.prog.info? 9).map (fun i=>(i.zero,i.size,i.bytes))=some (some (.string ByteArray.empty),1,16):=by kernel_rfl
theorem info3 :(Tryz.prog.info? 3).map (fun i=>(i.zero,i.size,i.bytes))=some (some (.int .i64 0),1,8):=by kernel_rfl
theorem aeB :(Tryz.prog.info? 46).map (fun i=>(i.zero,i.size,i.bytes))=some (some g_,1,24):=by kernel_rfl
theorem aeC :(Tryz.prog.info? 51).map (fun i=>(i.zero,i.size,i.bytes))=some (some g_,1,24):=by kernel_rfl
theorem Qi {e:TypeId}{z:Value}{b:Nat}(h:(Tryz.prog.info? e).map (fun i=>(i.zero,i.size,i.bytes))=some (some z,1,b)):(Tryz.prog.info? e).map (·.size)=some 1:=by
 obtain⟨i,hi,_,h1,_⟩:=info_parts h;rw[hi];simp[h1]
theorem N8 (A:List Value)(z v:Value)(k:Nat):(A++List.replicate (k+1) z).set A.length v=A++[v]++List.replicate k z:=by
 rw[List.set_append_right _ _ (aK _),Nat.sub_self,List.replicate_succ];simp
theorem uf (bs:List Nat)(g:List (List Int))(h:bs.length=g.length):(qx bs g).length=g.length:=by unfold qx;rw[List.length_zipWith];omega
theorem V4 (bs:List Nat)(g:List (List Int))(r b:Nat)(h:bs.length=r)(hr:r<g.length):qx (bs++[b]) (g.take (r+1))=qx bs (g.take r)++[sl b g[r].length]:=by
 unfold qx;rw[aF hr,List.zipWith_append (by rw[aU];omega)];rfl
theorem ug (bs:List (Nat×List Nat))(g:List (List (List Int)))(h:bs.length=g.length):(qy bs g).length=g.length:=by unfold qy;rw[List.length_zipWith];omega
theorem V5 (bs:List (Nat×List Nat))(g:List (List (List Int)))(r:Nat)(b:Nat×List Nat)(h:bs.length=r)(hr:r<g.length):qy (bs++[b]) (g.take (r+1))=qy bs (g.take r)++[sl b.1 g[r].length]:=by
 unfold qy;rw[aF hr,List.zipWith_append (by rw[aU];omega)];rfl
structure Li (w:World)(bx r:Nat)(bs:List Nat)(g:List (List Int)):Prop where
 blk:bK w bx (qx bs (g.take r)++List.replicate (g.length+2-r) g_) 46
 len:bs.length=r
 each:∀(i:Nat)(b':Nat)(xs:List Int),bs[i]?=some b'→g[i]?=some xs→LI w b' xs
 nodup:bs.Nodup
 bd:∀b∈bs,bx<b∧b<w.heap.size
theorem Li.step {w w1 w2:World}{bx r:Nat}{bs:List Nat}{g:List (List Int)}(h:Li w bx r bs g)(hr:r<g.length)(hw:bx<w.heap.size)(x1:Ext w w1)(z1:w1.heap.size=w.heap.size+1)(k2:Kp (fun k=>k=w.heap.size) w1 w2)(z2:w2.heap.size=w1.heap.size)(hl:LI w2 w.heap.size g[r]):
 Li (w2.setCell ⟨bx,r,none⟩ (sl w.heap.size g[r].length)) bx (r+1) (bs++[w.heap.size]) g:=by
 have k12:Kp (fun k=>k=w.heap.size) w w2:=(Kp.cZ x1).trans k2;have hb2:=h.blk.kept k12 af;have hs:=hb2.set r (sl w.heap.size g[r].length);have e1:(qx bs (g.take r)).length=r:=by rw[uf _ _ (by rw[h.len,aU];omega),aU];omega
 have e2:(qx bs (g.take r)++List.replicate (g.length+2-r) g_).set r (sl w.heap.size g[r].length)=qx (bs++[w.heap.size]) (g.take (r+1))++List.replicate (g.length+2-(r+1)) g_:=by
  rw[V4 bs g r _ h.len hr,show g.length+2-r=(g.length+2-(r+1))+1 from af];have:=N8 (qx bs (g.take r)) g_ (sl w.heap.size g[r].length) (g.length+2-(r+1));rw[e1]at this;exact this
 rw[e2]at hs;refine⟨hs,by simp[h.len],fun i b' xs hi hx=>?_,?_,fun b hb=>?_⟩
 ·by_cases hir:i<r
  ·rw[aS (by rw[h.len];exact hir)]at hi;have hb':=h.bd b' (List.mem_of_getElem? hi);exact((h.each i b' xs hi hx).kept k12 af).kept (bI w2 bx r _) af
  ·have hlt:=(aL.1 hi).1;simp[h.len]at hlt;obtain rfl:i=r:=af;rw[aP (by rw[h.len];exact aK _),h.len,Nat.sub_self]at hi;simp at hi;subst hi;rw[ay hr]at hx;simp at hx;subst hx;exact hl.kept (bI w2 bx i _) af
 ·rw[List.nodup_append];refine⟨h.nodup,aj,fun a ha b hb=>?_⟩;simp at hb;subst hb;have:=(h.bd a ha).2;omega
 ·rw[size_set,z2,z1];rcases aI.1 hb with hb|hb
  ·have:=h.bd b hb;omega
  ·simp at hb;subst hb;omega
structure Lo (w:World)(P:Nat)(nv gv:Value)(q:Nat)(dD:List (Nat×List Nat))(ss:List ByteArray)(gs:List (List (List Int))):Prop where
 st:St w P nv gv (sl (P+3) ss.length) (.slice (some ⟨P+4,0,none⟩) (gs.length+2) (gs.length+2))
 names:bK w (P+3) (ss.map Value.string++[.string ByteArray.empty,.string ByteArray.empty]) 9
 top:bK w (P+4) (qy dD (gs.take q)++List.replicate (gs.length+2-q) g_) 51
 len:dD.length=q
 group:∀(j:Nat)(p:Nat×List Nat)(g:List (List Int)),dD[j]?=some p→gs[j]?=some g→LG w p.1 p.2 g∧P+4<p.1
 nodup:(flat dD).Nodup
 fl:∀b∈flat dD,P+4<b∧b<w.heap.size
theorem LG.kept {S:Nat→Prop}{w w':World}{b:Nat}{bs:List Nat}{g:List (List Int)}(h:LG w b bs g)(k:Kp S w w')(h1:¬S b)(h2:∀b∈bs,¬S b):LG w' b bs g:=
 ⟨h.blk.kept k h1,h.len,fun i b' xs hi hx=>(h.each i b' xs hi hx).kept k (h2 b' (List.mem_of_getElem? hi))⟩
theorem N9 {dD:List (Nat×List Nat)}{j:Nat}{p:Nat×List Nat}(h:dD[j]?=some p):∀b∈p.2,b∈flat dD:=fun _ hb=>List.mem_flatMap.2 ⟨p,List.mem_of_getElem? h,hb⟩
theorem Lo.ext {w w':World}{P:Nat}{nv gv:Value}{q:Nat}{dD:List (Nat×List Nat)}{ss:List ByteArray}{gs:List (List (List Int))}(h:Lo w P nv gv q dD ss gs)(k:Ext w w'):Lo w' P nv gv q dD ss gs:=
 ⟨h.st.kept k (fun _ f=>f.elim),h.names.kept k id,h.top.kept k id,h.len,fun j p g a b=>⟨(h.group j p g a b).1.kept k id (fun _ _=>id),(h.group j p g a b).2⟩,h.nodup,fun b hb=>⟨(h.fl b hb).1,aY (h.fl b hb).2 k.size⟩⟩
theorem Lo.step {w w1:World}{P:Nat}{nv gv:Value}{q:Nat}{dD:List (Nat×List Nat)}{ss:List ByteArray}{gs:List (List (List Int))}(h:Lo w P nv gv q dD ss gs)(hq:q<gs.length)(x:Ext w w1)(hP:P+4<w.heap.size)(bs:List Nat)(_hb:w.heap.size<w1.heap.size)(hi:Li w1 w.heap.size gs[q].length bs gs[q]):
 Lo (w1.setCell ⟨P+4,q,none⟩ (sl w.heap.size gs[q].length)) P nv gv (q+1) (dD++[(w.heap.size,bs)]) ss gs:=by
 have h1:=h.ext x;have kk:=bI w1 (P+4) q (sl w.heap.size gs[q].length);have hs:=h1.top.set q (sl w.heap.size gs[q].length);have e1:(qy dD (gs.take q)).length=q:=by rw[ug _ _ (by rw[h.len,aU];omega),aU];omega
 have e2:(qy dD (gs.take q)++List.replicate (gs.length+2-q) g_).set q (sl w.heap.size gs[q].length)=qy (dD++[(w.heap.size,bs)]) (gs.take (q+1))++List.replicate (gs.length+2-(q+1)) g_:=by
  rw[V5 dD gs q _ h.len hq,show gs.length+2-q=(gs.length+2-(q+1))+1 from af];have:=N8 (qy dD (gs.take q)) g_ (sl w.heap.size gs[q].length) (gs.length+2-(q+1));rw[e1]at this;exact this
 rw[e2]at hs;have hfl:flat (dD++[(w.heap.size,bs)])=flat dD++bs:=by unfold flat;simp
 have hLG:LG w1 w.heap.size bs gs[q]:=by
  refine⟨?_,hi.len,hi.each⟩;have:=hi.blk;rw[aX,show gs[q].length+2-gs[q].length=2 from af]at this;exact this
 refine⟨⟨h1.st.box.kept kk af,h1.st.res.kept kk af,h1.st.out.kept kk af⟩,h1.names.kept kk af,hs,by simp[h.len],fun j p g hj hg=>?_,?_,fun b hb'=>?_⟩
 ·by_cases hjq:j<q
  ·rw[aS (by rw[h.len];exact hjq)]at hj;have hp:=h1.group j p g hj hg;exact⟨hp.1.kept kk af (fun b hb=>by have:=(h1.fl b (N9 hj b hb)).1;omega),hp.2⟩
  ·have hlt:=(aL.1 hj).1;simp[h.len]at hlt;obtain rfl:j=q:=af;rw[aP (by rw[h.len];exact aK _),h.len,Nat.sub_self]at hj;simp at hj;subst hj;rw[ay hq]at hg;simp at hg;subst hg;exact⟨hLG.kept kk (by show¬w.heap.size=P+4;omega) (fun b hb=>by have:=(hi.bd b hb).1;omega),by show P+4<w.heap.size;omega⟩
 ·rw[hfl,List.nodup_append];refine⟨h.nodup,hi.nodup,fun a ha b hb e=>?_⟩;have h2:=(h.fl a ha).2;have h3:=(hi.bd b hb).1;omega
 ·rw[size_set];rw[hfl]at hb';rcases aI.1 hb' with hb'|hb'
  ·exact h1.fl b hb'
  ·have:=hi.bd b hb';omega
theorem Lo.done {w:World}{P:Nat}{nv gv:Value}{dD:List (Nat×List Nat)}{ss:List ByteArray}{gs:List (List (List Int))}(h:Lo w P nv gv gs.length dD ss gs):qX w (P+3) (P+4) dD ss gs:=by
 refine⟨h.names,?_,h.len,fun j p g a b=>(h.group j p g a b).1,h.nodup⟩;have:=h.top;rw[aX,show gs.length+2-gs.length=2 from af]at this;exact this
theorem Li.ext {w w':World}{bx r:Nat}{bs:List Nat}{g:List (List Int)}(h:Li w bx r bs g)(k:Ext w w'):Li w' bx r bs g:=
 ⟨h.blk.kept k id,h.len,fun i b' xs hi hx=>(h.each i b' xs hi hx).kept k id,h.nodup,fun b hb=>⟨(h.bd b hb).1,aY (h.bd b hb).2 k.size⟩⟩
theorem Li.cell {w:World}{bx r:Nat}{bs:List Nat}{g:List (List Int)}(h:Li w bx r bs g)(hr:r<g.length):w.cell? ⟨bx,r,none⟩=some g_:=by
 have e1:(qx bs (g.take r)).length=r:=by rw[uf _ _ (by rw[h.len,aU];omega),aU];omega
 rw[h.blk.cell,aP af,e1,Nat.sub_self,List.getElem?_replicate,if_pos af]
theorem Lo.cell {w:World}{P:Nat}{nv gv:Value}{q:Nat}{dD:List (Nat×List Nat)}{ss:List ByteArray}{gs:List (List (List Int))}(h:Lo w P nv gv q dD ss gs)(hr:q<gs.length):w.cell? ⟨P+4,q,none⟩=some g_:=by
 have e1:(qy dD (gs.take q)).length=q:=by rw[ug _ _ (by rw[h.len,aU];omega),aU];omega
 rw[h.top.cell,aP af,e1,Nat.sub_self,List.getElem?_replicate,if_pos af]
theorem qX.kept {S:Nat→Prop}{w w':World}{bN bG:Nat}{dD:List (Nat×List Nat)}{ss:List ByteArray}{gs:List (List (List Int))}(h:qX w bN bG dD ss gs)(k:Kp S w w')(h1:¬S bN)(h2:¬S bG)(h3:∀p∈dD,¬S p.1)(h4:∀b∈flat dD,¬S b):qX w' bN bG dD ss gs:=
 ⟨h.names.kept k h1,h.top.kept k h2,h.len,fun j p g a b=>(h.group j p g a b).kept k (h3 p (List.mem_of_getElem? a)) (fun b' hb=>h4 b' (N9 a b' hb)),h.nodup⟩
theorem qX.ext {w w':World}{bN bG:Nat}{dD:List (Nat×List Nat)}{ss:List ByteArray}{gs:List (List (List Int))}(h:qX w bN bG dD ss gs)(k:Ext w w'):qX w' bN bG dD ss gs:=h.kept k id id (fun _ _=>id) (fun _ _=>id)
theorem qX.rdS {w:World}{bN bG:Nat}{dD:List (Nat×List Nat)}{ss:List ByteArray}{gs:List (List (List Int))}(h:qX w bN bG dD ss gs)(hsm:Small ss gs):h_ w.heap.size w (sl bN ss.length) ss:=by
 have:=Rd.KG (B0:=w.heap.size) h.names rfl h.names.lt (by rw[aQ];have:=hsm.names;omega);rw[aQ]at this;exact this
theorem LG.rd {w:World}{b:Nat}{bs:List Nat}{g:List (List Int)}(h:LG w b bs g)(h1:g.length≤5864062014634)(h2:∀l∈g,l.length≤17592186043904):ql w.heap.size w (sl b g.length) g:=by
 have hz:=uf bs g h.len;have hr:=Rd.KG (B0:=w.heap.size) h.blk rfl h.blk.lt af;rw[hz]at hr;refine⟨_,hr,hz,fun i x xs hx hxs=>?_⟩;have hi:=(aL.1 hxs).1;have hib:i<bs.length:=by rw[h.len];exact hi
 have hbi:bs[i]?=some bs[i]:=ay hib;have e:(qx bs g)[i]?=some (sl bs[i] xs.length):=by
  unfold qx;rw[List.getElem?_zipWith,hbi,hxs]
 rw[e]at hx;simp only[Option.some.injEq]at hx;subst hx;have hL:=h.each i _ xs hbi hxs;have:=Rd.KG (B0:=w.heap.size) hL rfl hL.lt (by rw[aQ];have:=h2 xs (List.mem_of_getElem? hxs);omega);rw[aQ]at this;exact this
theorem qX.afq {w:World}{bN bG:Nat}{dD:List (Nat×List Nat)}{ss:List ByteArray}{gs:List (List (List Int))}(h:qX w bN bG dD ss gs)(hsm:Small ss gs):jy w.heap.size w (sl bG gs.length) gs:=by
 have hz:=ug dD gs h.len;have hr:=Rd.KG (B0:=w.heap.size) h.top rfl h.top.lt (by rw[hz];have:=hsm.groups;omega);rw[hz]at hr;refine⟨_,hr,hz,fun i x g hx hg=>?_⟩;have hi:=(aL.1 hg).1;have hib:i<dD.length:=by rw[h.len];exact hi
 have hbi:dD[i]?=some dD[i]:=ay hib;have e:(qy dD gs)[i]?=some (sl dD[i].1 g.length):=by
  unfold qy;rw[List.getElem?_zipWith,hbi,hg]
 rw[e]at hx;simp only[Option.some.injEq]at hx;subst hx;exact(h.group i _ g hbi hg).rd (hsm.group g (List.mem_of_getElem? hg)) (hsm.list g (List.mem_of_getElem? hg))
theorem uj (a b:List UInt8):Value.string ({data:=a.toArray}++{data:=b.toArray})=T (a++b):=by rw[ByteArray.mk_append_mk]
theorem um {α:Type}(l:List α)(k:Nat)(d:α)(h:k<l.length):l.getD k d=l[k]:=by rw[aC,ay h];rfl
theorem nN (n:Int)(w:World)(h0:0≤n)(h1:n≤1099511627775):Calls Tryz.prog 72 #[.int .i64 n] w fun e w'=>e=.returned (T (Pl.dG n.toNat))∧Ext w w':=
 QW n.toNat n w h0 h1 af
theorem O9 (B0:Nat)(w:World)(v:Value)(xs:List Int)(hr:jD B0 w v xs)(hx:∀x∈xs,0≤x∧x≤1099511627775)(hl:xs.length≤20):
 Calls Tryz.prog 94 #[.int .i64 0,v] w fun e w'=>e=.returned (T (0::Pl.plain xs))∧Ext w w':=by
 have hr0:=hr;obtain⟨ao,cap,rfl,h1,h2,-⟩:=jD.open hr;clear hr;have hcv:=C8 0 af af;go_enter Tryz.func94,Tryz.ntmps94
 go_wp2_with fail
 go_loopw [5,6] (fun t i wr=>∃(k:Nat)(S:List UInt8),k≤xs.length∧i=.int .i64 k∧t=T S∧S.length≤200∧Hid (S=0::Pl.plain (xs.take k))∧Ext w wr) (fun _ i _=>xs.length-(intOf i).toNat)
 case atStart=>exact⟨0,[0],aM _,rfl,rfl,aj,rfl,ax.alloc _⟩
 case round=>
  obtain⟨k,S,hk,rfl,rfl,hS,HS,hext⟩:=hrel;clear hcv;by_cases hkl:k<xs.length
  ·obtain⟨KQ,cap',he,_,_,h3⟩:=jD.open (hr0.kept hext (fun _ f=>f.elim));cases he;obtain⟨b,off,rfl,hb0,hc⟩:=h3 af;have hck:=hc k hkl;rw[um xs k 0 hkl]at hck;have hxk:=hx xs[k] (aJ hkl);have hpl:=xU (xs.take (k+1)) (fun x hx'=>hx x (List.mem_of_mem_take hx'));have htk:=Ay xs k hkl;clear hc h3;have hvl:=Pl.eB 5 xs[k].toNat (by simp;omega);have HN:Hid (S++Pl.dG xs[k].toNat=0::Pl.plain (xs.take (k+1))):=by show _=_;rw[HS.out,htk];rfl
   have hlen:(S++Pl.dG xs[k].toNat).length≤200:=by rw[HN.out];simp only[aR,aU]at hpl⊢;omega
   clear hpl htk;generalize xs[k]=x at*
   go_wp2_with fail
   refine(nN x _ hxk.1 hxk.2).mono ?_;rintro e w1 ⟨rfl,x1⟩
   go_wp2_with fail
   exact⟨⟨k+1,S++Pl.dG x.toNat,af,by go_num,uj _ _,hlen,HN,hext.trans x1⟩,by simp[intOf];omega⟩
  ·go_wp2_with fail
   go_ret;rw[List.take_of_length_le af]at HS;exact⟨by rw[←HS.out];rfl,hext⟩
theorem O_ (B0:Nat)(w:World)(v:Value)(xs:List Int)(hr:jD B0 w v xs)(hx:∀x∈xs,0≤x∧x≤1099511627775)(hl:xs.length≤20):
 Calls Tryz.prog 94 #[.int .i64 1,v] w fun e w'=>e=.returned (T (1::Pl.runs xs))∧Ext w w':=by
 have hr0:=hr;obtain⟨ao,cap,rfl,h1,h2,-⟩:=jD.open hr;clear hr;have hcv:=C8 1 af af;go_enter Tryz.func94,Tryz.ntmps94
 go_wp2_with fail
 go_loopw [5,7] (fun t i wr=>∃(k:Nat)(S:List UInt8),k≤xs.length∧i=.int .i64 k∧t=T S∧S.length≤1+8*k∧Hid (S++Pl.runs (xs.drop k)=1::Pl.runs xs)∧Ext w wr) (fun _ i _=>xs.length-(intOf i).toNat)
 case atStart=>exact⟨0,[1],aM _,rfl,rfl,aj,rfl,ax.alloc _⟩
 case round=>
  obtain⟨k,S,hk,rfl,rfl,hS,HS,hext⟩:=hrel;clear hcv;by_cases hkl:k<xs.length
  ·go_wp2_with fail
   go_loopw [8] (fun n wr'=>∃m:Nat,n=.int .i64 m∧1≤m∧k+m≤xs.length∧Hid (∀j,j<m→xs.getD (k+j) 0=xs.getD k 0)∧Ext w wr') (fun n _=>xs.length-(intOf n).toNat)
   case atStart=>exact⟨1,rfl,af,af,fun j hj=>by rw[show j=0 from af];rfl,hext⟩
   case round=>
    clear hext;obtain⟨m,rfl,hm1,hm2,hall,KN⟩:=hrel;obtain⟨KQ,cap',he,_,_,h3⟩:=jD.open (hr0.kept KN (fun _ f=>f.elim));cases he;obtain⟨b,off,rfl,hb0,hc⟩:=h3 af;have hck:=hc k hkl;have hxk:=hx (xs.getD k 0) (by rw[um xs k 0 hkl];exact aJ hkl);have hp0:(0:Int)≤(k:Int)+(m:Int):=af;have hp2:((k:Int)+(m:Int)).toNat=k+m:=af;have hwr:IntKind.i64.wrap ((k:Int)+(m:Int))=(k:Int)+(m:Int):=by simp[IntKind.wrap,IntKind.bits,IntKind.signed];omega
    by_cases hgo:k+m<xs.length∧xs.getD (k+m) 0=xs.getD k 0
    ·obtain⟨hlt,hyx⟩:=hgo;have hcm:=hc (k+m) hlt;have hd:decide ((k:Int)+(m:Int)<(xs.length:Int))=true:=by simp;omega
     have hp1:(k:Int)+(m:Int)<(xs.length:Int):=af;rw[hyx]at hcm;clear hc h3 hx hr0;have HYX:=hide hyx;clear hyx;generalize hx0:xs.getD k 0=x0 at*;have HX0:=hide hx0;clear hx0
     go_wp2_with fail
     go_quiet (fail)
     go_wp2_with fail
     refine⟨⟨m+1,by go_num,af,af,?_,KN.drewN _⟩,by simp[intOf];omega⟩;intro j hj;by_cases e:j=m
     ·subst e;exact HYX.out
     ·exact hall.out j af
    ·have hds:xs.drop k=xs.getD k 0::xs.drop (k+1):=by rw[um xs k 0 hkl];exact aV hkl
     have hgd:∀j,(xs.drop k).getD j 0=xs.getD (k+j) 0:=fun j=>by rw[aC,aC,List.getElem?_drop]
     have hrun:=Bn (xs.getD k 0) (xs.drop k) m (fun j hj=>by rw[hgd];exact hall.out j hj) (by rw[bq];omega) (fun hj=>by
      rw[bq]at hj;rw[hgd];exact fun e=>hgo ⟨af,e⟩)
     have KO:=Pl.A8 (xs.getD k 0) (xs.drop (k+1));rw[←hds]at KO;have hrl:m=Pl.iw (xs.getD k 0) (xs.drop (k+1))+1:=by
      rw[←hrun]
      conv=>lhs;rw[hds]
      simp[Pl.iw]
     rw[←hrl,List.drop_drop,show k+1+Pl.iw (xs.getD k 0) (xs.drop (k+1))=k+m from af]at KO;have hv1:=Pl.eB 0 m (by show _<128;omega);have hv2:=Pl.eB 5 (xs.getD k 0).toNat (by simp only[Nat.reduceAdd,Nat.reducePow];omega);have HN:Hid (S++Pl.dG m++Pl.dG (xs.getD k 0).toNat++Pl.runs (xs.drop (k+m))=1::Pl.runs xs):=by
      show _=_;rw[←HS.out,KO];simp
     clear hrun KO hrl hds hgd hall HS;have hbs:=World.block_lt_of_cell? _ _ hck;simp only at hbs;by_cases hlt:k+m<xs.length
     ·have hcm:=hc (k+m) hlt;have hd:decide ((k:Int)+(m:Int)<(xs.length:Int))=true:=by simp;omega
      have hp1:(k:Int)+(m:Int)<(xs.length:Int):=af;have hyx:(xs.getD (k+m) 0==xs.getD k 0)=false:=by
       rw[beq_eq_false_iff_ne];exact fun e=>hgo ⟨hlt,e⟩
      clear hc h3 hx hr0 hgo;generalize hx0:xs.getD k 0=x0 at*;generalize hy0:xs.getD (k+m) 0=y0 at*;clear hx0 hy0
      go_wp2_with fail
      go_quiet (fail)
      go_wp2_with fail
      go_region_with (go_at_call 72;go_must (refine(nN _ _ af af).mono ?_);rintro e w1 ⟨rfl,x1⟩;try(have hcx:=x1.cell (a:=⟨b,off+k,none⟩) (by exact hck) id))
      all_goals
       go_wp2_with fail
       refine⟨⟨k+m,S++Pl.dG m++Pl.dG x0.toNat,af,by go_num,?_,?_,HN,?_⟩,?_⟩
       ·rw[ByteArray.mk_append_mk,ByteArray.mk_append_mk]
       ·simp only[aD];omega
       ·exact((Kp.drew (KN.drewN _)).trans (by assumption)).trans (by assumption)
       ·simp[intOf];omega
     ·have hd:decide ((k:Int)+(m:Int)<(xs.length:Int))=false:=by simp;omega
      clear hc h3 hx hr0 hgo;generalize hx0:xs.getD k 0=x0 at*;clear hx0
      go_wp2_with fail
      go_quiet (fail)
      go_wp2_with fail
      go_region_with (go_at_call 72;go_must (refine(nN _ _ af af).mono ?_);rintro e w1 ⟨rfl,x1⟩;try(have hcx:=x1.cell (a:=⟨b,off+k,none⟩) (by exact hck) id))
      all_goals
       go_wp2_with fail
       refine⟨⟨k+m,S++Pl.dG m++Pl.dG x0.toNat,af,by go_num,?_,?_,HN,?_⟩,?_⟩
       ·rw[ByteArray.mk_append_mk,ByteArray.mk_append_mk]
       ·simp only[aD];omega
       ·exact((Kp.drew (KN.drewN _)).trans (by assumption)).trans (by assumption)
       ·simp[intOf];omega
  ·go_wp2_with fail
   go_ret;rw[List.drop_of_length_le af,Pl.zL,List.append_nil]at HS;exact⟨by rw[←HS.out];rfl,hext⟩
end Go.Proofs.YthicgffppmbamaaGreat
