import Derived.Test.YthicgffppmbamaaGreatP10
import Derived.Test.YthicgffppmbamaaGreatP16
import Derived.Test.YthicgffppmbamaaGreatP20
set_option maxRecDepth 100000
set_option maxHeartbeats 16000000
namespace Go.Proofs.YthicgffppmbamaaGreat
open Go.RowKit
theorem DZ (l:List UInt8)(p n:Nat):(ByteArray.mk l.toArray).extract p (p+n)=⟨((l.drop p).take n).toArray⟩:=by
 apply ByteArray.ext;rw[ByteArray.data_extract];apply Array.ext';simp only[Array.toList_extract,List.extract_eq_take_drop];rw[show p+n-p=n from af]
theorem Jw (col:bU):Calm col (fun _=>False):=⟨fun _ f=>f.elim,fun _ f=>f.elim,fun _ _ f=>f.elim,fun _ f=>f.elim,fun _ _ f=>f.elim⟩
theorem dK.aaq {col:bU}{w w':World}{Y:Nat}{r:Pl.cO}{bJ:List Value}{nv pv rv tv:Value}(h:dK col w Y r bJ nv pv rv tv)(k:Ext w w')(c:Col):dK (fo col w.heap.size w'.heap.size c) w' Y r bJ nv pv rv tv∧cu col w w' (fo col w.heap.size w'.heap.size c):=
 ⟨⟨h.blk.kept k id,h.inn.go k h.blk.lt (Jw col) (fun _ _ f=>f) (fun i hi=>kH _ _ _ _ _ hi) (fun i hi=>by rw[nS _ _ _ _ _ hi];exact h.inn.top i (aO k.size hi))⟩,⟨Kp.cZ k,fun i hi=>kH _ _ _ _ _ hi⟩⟩
theorem dK.aar {col:bU}{w:World}{Y:Nat}{r:Pl.cO}{bJ:List Value}{nv pv rv tv:Value}(h:dK col w Y r bJ nv pv rv tv)(g c:Nat)(hg:g<r.there.length)(hc:c<(r.there[g]).length):
 ∃gb go tc lb lo lc,tv=.slice (some ⟨gb,go,none⟩) r.there.length tc∧w.cell? ⟨gb,go+g,none⟩=some (.slice (some ⟨lb,lo,none⟩) (r.there[g]).length lc)∧(∃y,w.cell? ⟨lb,lo+c,none⟩=some y)∧w.frozen? ⟨lb,lo+c,none⟩=false∧
  ∀(u:Value)(l:List Int),bM (fun b=>col b=.ro) false w 1 u l.length (l.map I)→(l=[]→u=.slice none 0 0)→dK col (w.setCell ⟨lb,lo+c,none⟩ u) Y {r with there:=r.there.modify g fun ls=>ls.set c l} bJ nv pv rv tv∧Kp (Mine col) w (w.setCell ⟨lb,lo+c,none⟩ u):=by
 obtain⟨eG,hlv,hrow,hlist⟩:=h.inn.there;obtain⟨ga,gc,rfl,hgc,h3⟩:=hrow.get;obtain⟨gb,go,rfl,-,-⟩:=h3 af;obtain⟨vs,hvl,mR,hvs⟩:=hlist g _ _ (ay af) (ay hg);obtain⟨la,lc,hle,hlc,h4⟩:=mR.get;obtain⟨lb,lo,rfl,-,-⟩:=h4 af;rw[hle]at mR;obtain⟨e3,f3,vJ⟩:=mR.n_ c af;have e1:=(hrow.n_ g af).1;rw[ay af,hle]at e1;refine⟨gb,go,gc,lb,lo,lc,rfl,e1,⟨_,e3.trans (ay af)⟩,f3,fun u l hu hun=>?_⟩;have k:=bI w lb (lo+c) u;have hno:∀(c':Col),c'≠.lists g→∀i,i=lb→col i≠c':=fun c' hn i hi e=>hn (by rw[←e,hi];exact vJ)
 have Ga:Kp (Mine col) w (w.setCell ⟨lb,lo+c,none⟩ u):=k.mono (fun i _ e=>by show col i≠.out;exact hno _ aj i e);refine⟨⟨h.blk.kept k (fun e=>hno .scan aj Y e h.inn.gP),h.inn.gP,fun i hi=>h.inn.top i (aO k.size hi),?_,h.inn.iA,?_,h.inn.cB,?_,?_,?_⟩,Ga⟩
 ·exact h.inn.names.go k (fun i hi hs=>hno .ro aj i hs hi) (fun _ _ e=>e)
 ·exact h.inn.pieces.kept k (fun q hq hs=>hno .asked aj q hs (h.inn.cB q hq))
 ·exact fun i x p a b=>(h.inn.parts i x p a b).go k (fun i hi hs=>hno .ro aj i hs hi) (fun _ _ e=>e)
 ·exact h.inn.rows.go k (fun i hi hs=>hno .ro aj i hs hi) (fun _ _ e=>e)
 ·show ru col _ _ (r.there.modify g fun ls=>ls.set c l);refine⟨eG,by rw[List.length_modify];exact hlv,?_,fun i lv ls hi hls=>?_⟩
  ·rw[List.length_modify];exact hrow.go k (fun i hi hs=>hno .groups aj i hs hi) (fun _ _ e=>e)
  ·rw[List.getElem?_modify]at hls;by_cases hgi:g=i
   ·subst hgi;rw[ay hg]at hls;simp at hls;subst hls;rw[ay af]at hi;obtain rfl:=Option.some.inj hi;refine⟨vs.set c u,by rw[List.length_set,List.length_set];exact hvl,?_,fun j u' l' hj hl'=>?_⟩
    ·rw[List.length_set,hle];exact mR.set c af u
    ·by_cases hjc:c=j
     ·subst hjc;rw[List.getElem?_set_self af]at hj;rw[List.getElem?_set_self hc]at hl';cases hj;cases hl';exact⟨hu.go k (fun i hi hs=>hno .ro aj i hs hi) (fun _ _ e=>e),hun⟩
     ·rw[List.getElem?_set_ne hjc]at hj hl';exact⟨(hvs j u' l' hj hl').1.go k (fun i hi hs=>hno .ro aj i hs hi) (fun _ _ e=>e),(hvs j u' l' hj hl').2⟩
   ·cases hq:r.there[i]? with
    |none=>rw[hq]at hls;simp at hls
    |some t=>
     rw[hq]at hls;simp[hgi]at hls;subst hls;exact(hlist i lv _ hi hq).go k (hno _ (by simp;omega)) (hno _ aj) (fun _ _=>rfl)
structure acv (q:Pl.bQ)(r:Pl.cO)(x:Pl.eU):Prop where
 first:q.place≤x.page.place
 ends:x.page.place-q.place+x.page.length≤q.got.length
 group:x.group<r.rows.length
 want:∀t,r.there[x.group]?=some t→x.want<t.length
 sum:x.page.sum<4294967296
 small:x.page.place≤1000000∧x.want≤1000000
theorem Ur {α:Type}(f:α→List Value)(s:Nat)(hf:∀x,(f x).length=s)(l:List α)(i j:Nat)(hi:i<l.length)(hj:j<s):(l.flatMap f)[i*s+j]?=(f l[i])[j]?:=by
 have e:l.flatMap f=(l.map f).flatten:=by rw[List.flatMap]
 rw[e];refine jB s _ (fun x hx=>?_) i j hj _ ?_
 ·obtain⟨y,-,rfl⟩:=List.mem_map.1 hx;exact hf y
 ·rw[aN,ay hi];rfl
theorem Rv {a b:Nat}(ha:a<4294967296)(hb:b<4294967296)(h:Pl.dz a=Pl.dz b):a=b:=by
 have e:∀n,n<4294967296→Pl.Lg (Pl.dz n)=n:=fun n hn=>by
  unfold Pl.Lg Pl.dz;simp only[List.getD_cons_zero,List.getD_cons_succ,UInt8.toNat_ofNat'];omega
 rw[←e a ha,←e b hb,h]
theorem ET (l:List Pl.eU)(k j:Nat)(hk:k<l.length)(hj:j<5):(l.flatMap dA)[k*5+j]?=(dA l[k])[j]?:=Ur dA 5 (fun _=>rfl) l k j hk hj
theorem decode_len {s:List UInt8}{rows:Nat}{l:List Int}(h:Pl.decode s rows=some l)(hr:rows≤1000000):l.length=rows:=by
 rw[Pl.yP s rows hr]at h;exact wJ h
theorem Rx (col:bU)(w:World)(Y:Nat)(r:Pl.cO)(bJ:List Value)(nv pv rv tv:Value)(q:Pl.bQ)(xq:Value)(h:dK col w Y r bJ nv pv rv tv)(hq:jG col w xq q.parts)(hpl:q.parts.length≤1000)(hlen:r.there.length=r.rows.length)(hrl:r.rows.length≤1000)(hrw:∀n∈r.rows,1≤n∧n≤1000)(hgl:q.got.length≤10000)(hok:∀x∈q.parts,acv q r x):
 Calls Tryz.prog 111 #[PtrTo Y 0,.agg (dx xq q).toArray] w fun e w'=>e=.returned (.tuple #[])∧∃bV,dK bV w' Y (Pl.iB q q.parts r) bJ nv pv rv tv∧cu col w w' bV:=by
 obtain⟨xa,xc,rfl,hxc,hx3⟩:=hq.get;have hag:(Value.agg (dx (.slice xa q.parts.length xc) q).toArray)=.agg #[.int .i64 q.kind,.int .i64 q.place,.int .i64 q.length,.string ⟨q.got.toArray⟩,.int .i64 q.failed,.int .i64 q.id,.int .i64 q.due,.int .i64 q.turn,.slice xa q.parts.length xc]:=rfl;rw[hag];have x0:Ext w (w.alloc (.cells #[.int .i64 q.kind,.int .i64 q.place,.int .i64 q.length,.string ⟨q.got.toArray⟩,.int .i64 q.failed,.int .i64 q.id,.int .i64 q.due,.int .i64 q.turn,.slice xa q.parts.length xc] 121)):=ax.alloc _;have b0:=bK.bO w [.int .i64 q.kind,.int .i64 q.place,.int .i64 q.length,.string ⟨q.got.toArray⟩,.int .i64 q.failed,.int .i64 q.id,.int .i64 q.due,.int .i64 q.turn,.slice xa q.parts.length xc] 121;have h0:=h.ext x0;have z0:=x0.size;have hout:col w.heap.size=.out:=h.inn.top _ (aK _);have hq0:jG col _ (.slice xa q.parts.length xc) q.parts:=bM.go hq x0 (fun _ _ f=>f) (fun _ _ e=>e);clear hx3 hq hag;go_enter Tryz.func111,Tryz.ntmps111
 go_wp2_with fail
 generalize w.alloc (.cells #[.int .i64 q.kind,.int .i64 q.place,.int .i64 q.length,.string ⟨q.got.toArray⟩,.int .i64 q.failed,.int .i64 q.id,.int .i64 q.due,.int .i64 q.turn,.slice xa q.parts.length xc] 121)=W0 at*;go_loopw [4] (fun i wr=>∃(k:Nat)(r':Pl.cO)(bV:bU),i=.int .i64 k∧k≤q.parts.length∧dK bV wr Y r' bJ nv pv rv tv∧cu col w wr bV∧bK wr w.heap.size [.int .i64 q.kind,.int .i64 q.place,.int .i64 q.length,.string ⟨q.got.toArray⟩,.int .i64 q.failed,.int .i64 q.id,.int .i64 q.due,.int .i64 q.turn,.slice xa q.parts.length xc] 121∧bV w.heap.size=.out∧jG bV wr (.slice xa q.parts.length xc) q.parts∧Hid (Pl.iB q (q.parts.drop k) r'=Pl.iB q q.parts r)∧Hid (r'.rows=r.rows)∧Hid (r'.there.length=r.there.length)∧(∀(g:Nat)t,r'.there[g]?=some t→∃t0,r.there[g]?=some t0∧t.length=t0.length)) (fun i _=>q.parts.length-(intOf i).toNat)
 case atStart=>exact⟨0,r,col,rfl,af,h0,cu.ext x0,b0,hout,hq0,by show _=_;rfl,by show _=_;rfl,by show _=_;rfl,fun g t ht=>⟨t,ht,rfl⟩⟩
 case round=>
  obtain⟨k,r',iZ,rfl,hk,hR,hW,hB,ho1,hqk,HF,HRW,Y4,hTT⟩:=hrel;have b1:=hB.cell 1;have b3:=hB.cell 3;have b8:=hB.cell 8;simp only[au]at b1 b3 b8;by_cases hkl:k<q.parts.length
  ·have k1:(k:Int)<(q.parts.length:Int):=af;have k0:(0:Int)≤(k:Int):=af;have hx:=hok q.parts[k] (aJ hkl);obtain⟨D5,D6,he,-,hx3⟩:=hqk.get;cases he;obtain⟨pb,po,rfl,hpb,hpc⟩:=hx3 af;have hcc:∀j,j<5→wr.cell? ⟨pb,po+(k*5+j),none⟩=(dA q.parts[k])[j]?:=fun j hj=>(hpc _ af).trans (ET q.parts k j hkl hj)
   have d0:=hcc 0 af;have d1:=hcc 1 af;have d2:=hcc 2 af;have d3:=hcc 3 af;have d4:=hcc 4 af;have HDR:Hid (q.parts.drop k=q.parts[k]::q.parts.drop (k+1)):=by show _=_;exact aV hkl
   obtain⟨x,hxe⟩:∃x,x=q.parts[k]:=⟨_,rfl⟩
   rw[←hxe]at d0 d1 d2 d3 d4 hx HDR;simp only[dA,I,tx,au,Nat.add_zero,←Nat.add_assoc]at d0 d1 d2 d3 d4;clear hcc hpc hx3 hxe;have hf:=hx.first;have hen:=hx.ends;have hsm:=hx.small;have hgr:=hx.group;have ef:IntKind.i64.wrap ((x.page.place:Int)-(q.place:Int))=(x.page.place:Int)-(q.place:Int):=by simp[IntKind.wrap,IntKind.bits,IntKind.signed];omega
   have xA:Ext wr (wr.alloc (.cells #[.int .i64 x.group,.int .i64 x.want,.int .i64 x.page.place,.int .i64 x.page.length,.string ⟨(Pl.dz x.page.sum).toArray⟩] 210)):=ax.alloc _;have bA:=bK.bO wr [.int .i64 x.group,.int .i64 x.want,.int .i64 x.page.place,.int .i64 x.page.length,.string ⟨(Pl.dz x.page.sum).toArray⟩] 210;have zA:Hid ((wr.alloc (.cells #[.int .i64 x.group,.int .i64 x.want,.int .i64 x.page.place,.int .i64 x.page.length,.string ⟨(Pl.dz x.page.sum).toArray⟩] 210)).heap.size=wr.heap.size+1):=by show _=_;simp
   go_upto_region 5 with fail
   generalize wr.alloc (.cells #[.int .i64 x.group,.int .i64 x.want,.int .i64 x.page.place,.int .i64 x.page.length,.string ⟨(Pl.dz x.page.sum).toArray⟩] 210)=WA at*;have MF:=hR.ext xA;have Y5:=hB.kept xA id;have hqA:jG iZ WA _ q.parts:=bM.go hqk xA (fun _ _ f=>f) (fun _ _ e=>e);clear d0 d1 d2 d3 d4 b1 b3 b8 hqk hB;have b1:=Y5.cell 1;have b3:=Y5.cell 3;have a0:=bA.cell 0;have a1:=bA.cell 1;have a2:=bA.cell 2;have a3:=bA.cell 3;have a4:=bA.cell 4;simp only[au]at b1 b3 a0 a1 a2 a3 a4;have ef2:((x.page.place:Int)-(q.place:Int))=((x.page.place-q.place:Nat):Int):=af;have aiU:(ByteArray.mk q.got.toArray).extract (x.page.place-q.place) (x.page.place-q.place+x.page.length)=⟨(Pl.gZ q x).toArray⟩:=DZ q.got _ _;rw[ef2]at ef;obtain⟨fr,hfr⟩:∃fr,fr=x.page.place-q.place:=⟨_,rfl⟩
   rw[←hfr]at ef ef2 aiU hen;have Uj:=hide hfr;clear hfr;have s0:(0:Int)≤(fr:Int):=af;have s1:(fr:Int)≤(fr:Int)+(x.page.length:Int):=af;have s2:(fr:Int)+(x.page.length:Int)≤(q.got.length:Int):=af;have s3:((fr:Int)+(x.page.length:Int)).toNat=fr+x.page.length:=af
   go_upto_region 7 with fail
   have XF:x.group<r'.rows.length:=by rw[HRW.out];exact hgr
   have hrv:∃rb ro rc,rv=.slice (some ⟨rb,ro,none⟩) r'.rows.length rc∧∀j(hj:j<r'.rows.length),WA.cell? ⟨rb,ro+j,none⟩=some (.int .i64 (r'.rows[j]:Int)):=by
    obtain⟨ra,rc,e,-,hr3⟩:=MF.inn.rows.get;obtain⟨rb,ro,rfl,-,hrc⟩:=hr3 af;exact⟨rb,ro,rc,e,fun j hj=>(hrc j af).trans (by rw[aN,ay hj];rfl)⟩
   obtain⟨rb,ro,rc,rfl,hrc⟩:=hrv;have c11:=MF.blk.cell 11;simp only[dm,I,au]at c11;have e11:=hrc x.group XF;have g0:(0:Int)≤(x.group:Int):=af;have g1:(x.group:Int)<(r'.rows.length:Int):=af;have hrg:r'.rows.getD x.group 0=r'.rows[x.group]:=by rw[aC,ay XF];rfl
   have aiV:1≤r'.rows[x.group]∧r'.rows[x.group]≤1000:=hrw _ (by rw[←HRW.out];exact aJ XF);generalize hRG:r'.rows[x.group]=rg at*;have Gc:=hide hrg;clear hrc hrg hRG;have hS0:WA.drew.cell? ⟨Y,11,none⟩=some (.slice (some ⟨rb,ro,none⟩) r'.rows.length rc)∧WA.drew.cell? ⟨wr.heap.size,0,none⟩=some (.int .i64 (x.group:Int))∧WA.drew.cell? ⟨rb,ro+x.group,none⟩=some (.int .i64 (rg:Int)):=⟨c11,a0,e11⟩
   refine bZ (n:=14) (fun u=>u.cell? ⟨Y,11,none⟩=some (.slice (some ⟨rb,ro,none⟩) r'.rows.length rc)∧u.cell? ⟨wr.heap.size,0,none⟩=some (.int .i64 (x.group:Int))∧u.cell? ⟨rb,ro+x.group,none⟩=some (.int .i64 (rg:Int))) (by kernel_rfl) ?_;refine Late.t 0 [14] rfl hS0 ?_;refine Late.t 1 [14] rfl hS0 ?_;refine Late.t 2 [14] rfl hS0 ?_;refine Late.t 3 [14] rfl hS0 ?_;refine Late.t 4 [14] rfl hS0 ?_;refine Late.t 5 [14] rfl hS0 ?_;refine Late.t 6 [14] rfl hS0 ?_;refine Late.t 7 [14] rfl hS0 ?_;refine Late.t 8 [14] rfl hS0 ?_;refine Late.o 9 rfl (fun K hK=>?_);refine fe rfl 135 #[tx (Pl.gZ q x),.int .i64 (rg:Int)] (by go_simp) ?_;have aiW:(Pl.gZ q x).length≤10000:=by unfold Pl.gZ;rw[aU,bq];omega
   refine(QT WA.drew (Pl.gZ q x) rg af aiV.2).mono ?_;rintro e W5 ⟨hdec,x5d⟩;have xd:Ext WA WA.drew:=ax.drew;have x5:Ext WA W5:=xd.trans x5d;have hS5:W5.cell? ⟨Y,11,none⟩=some (.slice (some ⟨rb,ro,none⟩) r'.rows.length rc)∧W5.cell? ⟨wr.heap.size,0,none⟩=some (.int .i64 (x.group:Int))∧W5.cell? ⟨rb,ro+x.group,none⟩=some (.int .i64 (rg:Int)):=⟨x5.cell c11 id,x5.cell a0 id,x5.cell e11 id⟩
   have DT:Hid (Pl.iB q (x::q.parts.drop (k+1)) r'=Pl.iB q q.parts r):=by show _=_;rw[←HDR.out];exact HF.out
   cases hde:Pl.decode (Pl.gZ q x) rg with
   |none=>
    rw[hde]at hdec;obtain⟨v,rfl⟩:=hdec;refine⟨_,rfl,hK _ _ (fun _=>hS5) ?_⟩;clear hK K;try simp only[lX]
    refine Late.t 10 [14] rfl hS5 ?_;refine Late.t 11 [14] rfl hS5 ?_;refine Late.t 12 [14] rfl hS5 ?_;refine Late.t 13 [14] rfl hS5 ?_;refine Late.o 14 rfl (fun K hK=>?_);go_simp;refine hK _ _ (fun h=>absurd rfl h) ?_;clear hK K;try simp only[lX]
    refine Late.done (by kernel_rfl) ?_ _;have nE:=MF.ext x5
    go_upto_region 8 with fail
    go_quiet (fail);have xq:Ext W5 (W5.drewN nq):=ax.drewN nq;have l9:=nE.ext xq;have hx6:=x5.trans xq;clear hS5 hS0 nE;generalize W5.drewN nq=W6 at*;have c6:=l9.blk.cell 6;have f6:=l9.blk.free 6;simp only[dm,I,au]at c6;have h7:=l9.p8 6 (.int .i64 2) (r':={r' with state:=2}) (by simp[dm,I]) ⟨l9.inn.gP,l9.inn.top,l9.inn.names,l9.inn.iA,l9.inn.pieces,l9.inn.cB,l9.inn.parts,l9.inn.rows,l9.inn.there⟩;have k7:=l9.p9 6 (.int .i64 2);have Je:=hide (And.intro h7 ((hW.trans (cu.ext (xA.trans hx6))).trans ⟨k7,fun _ _=>rfl⟩));have HE:Hid (Pl.iB q q.parts r={r' with state:=2}):=by
     show _=_;rw[←DT.out];unfold Pl.iB;rw[Gc.out,hde]
    clear h7 k7
    go_wp2_with fail
    refine bodyPost_ret (results_none rfl _ _ _) rfl ?_;rw[HE.out];exact⟨rfl,iZ,Je.out.1,Je.out.2⟩
   |some l=>
    rw[hde]at hdec;obtain⟨v,rfl,hown,hnew⟩:=hdec;obtain⟨va,vc,rfl,YS⟩:=hown.shape;refine⟨_,rfl,hK _ _ (fun _=>hS5) ?_⟩;clear hK K;try simp only[lX]
    refine Late.t 10 [14] rfl hS5 ?_;refine Late.t 11 [14] rfl hS5 ?_;refine Late.t 12 [14] rfl hS5 ?_;refine Late.t 13 [14] rfl hS5 ?_;refine Late.o 14 rfl (fun K hK=>?_);go_simp;refine hK _ _ (fun h=>absurd rfl h) ?_;clear hK K;try simp only[lX]
    refine Late.done (by kernel_rfl) ?_ _
    go_upto_region 8 with fail
    have a4':=x5.cell a4 id;clear hS5 hS0 c11 e11;have lW:W5.drew.cell? ⟨wr.heap.size,4,none⟩=some (.string ⟨(Pl.dz x.page.sum).toArray⟩):=a4';refine bZ (n:=9) (fun u=>u.cell? ⟨wr.heap.size,4,none⟩=some (.string ⟨(Pl.dz x.page.sum).toArray⟩)) (by kernel_rfl) ?_;refine Late.t 0 [1,2,9] rfl lW ?_;refine Late.t 1 [2,9] rfl lW ?_;refine Late.t 2 [9] rfl lW ?_;refine Late.t 3 [4,8,9] rfl lW ?_;refine Late.t 5 [6,7,8,9] rfl lW ?_;refine Late.t 6 [7,8,9] rfl lW ?_;refine Late.t 7 [8,9] rfl lW ?_;refine Late.o 4 rfl (fun K hK=>?_);refine oK (by rfl) 74 #[tx (Pl.gZ q x)] (by go_simp) ?_;refine(FQ ⟨(Pl.gZ q x).toArray⟩ W5.drew (by show(Pl.gZ q x).toArray.size≤_;simpa using aiW)).mono ?_;rintro e W6 ⟨rfl,x6d⟩;have xd5:Ext W5 W5.drew:=ax.drew;have x6:Ext W5 W6:=xd5.trans x6d;have Y6:W6.cell? ⟨wr.heap.size,4,none⟩=some (.string ⟨(Pl.dz x.page.sum).toArray⟩):=x6.cell a4' id;have MG:bytesOf ⟨(Pl.gZ q x).toArray⟩=Pl.gZ q x:=by simp[bytesOf]
    rw[MG];have hsum:=hx.sum;have hslt:=Pl.sW (Pl.gZ q x);by_cases hse:Pl.sumOf (Pl.gZ q x)=x.page.sum
    ·have hs4:Pl.oM (Pl.gZ q x)=Pl.dz x.page.sum:=by unfold Pl.oM;rw[hse]
     have hcmp:(Pl.oM (Pl.gZ q x)==Pl.dz x.page.sum)=true:=by simp[hs4]
     have HS4:=hide hs4;clear hs4;refine⟨_,rfl,hK _ _ (fun _=>Y6) ?_⟩;clear hK K;try simp only[lX]
     refine Late.t 8 [9] rfl Y6 ?_;refine Late.o 9 rfl (fun K hK=>?_);go_simp;refine hK _ _ (fun h=>absurd rfl h) ?_;clear hK K;try simp only[lX]
     refine Late.done (by kernel_rfl) ?_ _;have Jy:=x5.trans x6;obtain⟨hR2,hW2⟩:=MF.aaq Jy .ro;have zAd:WA.drew.heap.size=WA.heap.size:=rfl;have Tn:bM (fun b=>fo iZ WA.heap.size W6.heap.size .ro b=.ro) false W6 1 (.slice va l.length vc) l.length (l.map I):=by
      have ho6:=hown.ext x6;refine(ho6.rowAt (fun b=>fo iZ WA.heap.size W6.heap.size .ro b=.ro) (fun g hg=>?_)).weak;exact nT _ _ _ _ _ (by have:=hnew g hg;omega) (ho6.lt hg)
     have hq2:jG (fo iZ WA.heap.size W6.heap.size .ro) W6 (.slice (some ⟨pb,po,none⟩) q.parts.length xc) q.parts:=bM.go hqA Jy (fun _ _ f=>f) (fun b hb e=>by rw[kH _ _ _ _ _ hb];exact e);have hB6:=Y5.kept Jy id;have zWA:w.heap.size<WA.heap.size:=by have:=Y5.lt;exact this
     have ho2:fo iZ WA.heap.size W6.heap.size .ro w.heap.size=.out:=by rw[kH _ _ _ _ _ zWA];exact ho1
     have hgt:x.group<r'.there.length:=by rw[Y4.out,hlen];exact hgr
     have hct:x.want<(r'.there[x.group]).length:=by
      obtain⟨t0,ht0,hl0⟩:=hTT x.group _ (ay hgt);rw[hl0];exact hx.want t0 ht0
     obtain⟨gb,go,tc,lb,lo,lc,rfl,e1,⟨y,e2⟩,f2,hput⟩:=hR2.aar x.group x.want hgt hct;obtain⟨PZ,k7⟩:=hput _ l Tn (fun e=>absurd (decode_len hde af) (by rw[e];simp;omega));have c12:=hR2.blk.cell 12;simp only[dm,I,au]at c12;have a0':=Jy.cell a0 id;have a1':=Jy.cell a1 id;have XH:lb≠w.heap.size∧(∀b,fo iZ WA.heap.size W6.heap.size .ro b=.ro→b≠lb):=by
      have hlb:∃g,fo iZ WA.heap.size W6.heap.size .ro lb=.lists g:=by
       obtain⟨eG,hlv,hrow,hlist⟩:=hR2.inn.there;obtain⟨vs,hvl,mR,-⟩:=hlist x.group _ _ (ay af) (ay hgt);have Jg:=(hrow.n_ x.group af).1;rw[ay af,e1]at Jg;rw[←Option.some.inj Jg]at mR;exact⟨_,(mR.n_ x.want af).2.2⟩
      obtain⟨g,hlb⟩:=hlb;exact⟨(fun e=>by rw[e,ho2]at hlb;cases hlb),(fun b hb e=>by rw[e,hlb]at hb;cases hb)⟩
     have ks:=bI W6 lb (lo+x.want) (.slice va l.length vc);have hB7:=hB6.kept ks (fun e=>XH.1 e.symm);have hq7:jG (fo iZ WA.heap.size W6.heap.size .ro) _ (.slice (some ⟨pb,po,none⟩) q.parts.length xc) q.parts:=bM.go hq2 ks (fun b hb e=>XH.2 b hb e) (fun _ _ e=>e);have hi0:(0:Int)≤(x.group:Int):=af;have hi1:(x.group:Int)<(r'.there.length:Int):=af;have hi2:(0:Int)≤(x.want:Int):=af;have hi3:(x.want:Int)<((r'.there[x.group]).length:Int):=af;have HPN:Hid (Pl.iB q (q.parts.drop (k+1)) {r' with there:=r'.there.modify x.group fun ls=>ls.set x.want l}=Pl.iB q q.parts r):=by
      show _=_;rw[←DT.out]
      conv=>rhs;unfold Pl.iB
      rw[Gc.out,hde];simp only;rw[if_pos hse]
     have aiX:∀(g:Nat)t,(r'.there.modify x.group fun ls=>ls.set x.want l)[g]?=some t→∃t0,r.there[g]?=some t0∧t.length=t0.length:=fun g t ht=>by
      rw[List.getElem?_modify]at ht;cases wB:r'.there[g]? with
      |none=>rw[wB]at ht;simp at ht
      |some t1=>
       obtain⟨t0,h0',h1'⟩:=hTT g t1 wB;rw[wB]at ht;refine⟨t0,h0',?_⟩;by_cases e:x.group=g
       ·simp[e]at ht;rw[←ht,List.length_set];exact h1'
       ·simp[e]at ht;rw[←ht];exact h1'
     generalize aiY:(r'.there[x.group]).length=tgl at*;clear aiY;have HK:=hide (And.intro PZ (And.intro ((hW.trans (cu.ext xA)).trans (hW2.trans ⟨k7,fun _ _=>rfl⟩)) (And.intro hB7 hq7)));clear PZ hW2 k7 hB7 hq7 hput hB6 hq2 Tn hR2 ks XH
     go_upto_region 10 with fail
     have nI:W6.drew.cell? ⟨Y,12,none⟩=some (.slice (some ⟨gb,go,none⟩) r'.there.length tc)∧W6.drew.cell? ⟨wr.heap.size,0,none⟩=some (.int .i64 (x.group:Int))∧W6.drew.cell? ⟨wr.heap.size,1,none⟩=some (.int .i64 (x.want:Int))∧W6.drew.cell? ⟨gb,go+x.group,none⟩=some (.slice (some ⟨lb,lo,none⟩) tgl lc):=⟨c12,a0',a1',e1⟩
     refine bZ (n:=12) (fun u=>u.cell? ⟨Y,12,none⟩=some (.slice (some ⟨gb,go,none⟩) r'.there.length tc)∧u.cell? ⟨wr.heap.size,0,none⟩=some (.int .i64 (x.group:Int))∧u.cell? ⟨wr.heap.size,1,none⟩=some (.int .i64 (x.want:Int))∧u.cell? ⟨gb,go+x.group,none⟩=some (.slice (some ⟨lb,lo,none⟩) tgl lc)) (by kernel_rfl) ?_;refine Late.t 0 [12] rfl nI ?_;refine Late.t 1 [12] rfl nI ?_;refine Late.t 2 [12] rfl nI ?_;refine Late.t 3 [12] rfl nI ?_;refine Late.t 4 [12] rfl nI ?_;refine Late.t 5 [12] rfl nI ?_;refine Late.t 6 [12] rfl nI ?_;refine Late.t 7 [12] rfl nI ?_;refine Late.t 8 [12] rfl nI ?_;refine Late.t 9 [12] rfl nI ?_;refine Late.t 10 [12] rfl nI ?_;refine Late.t 11 [12] rfl nI ?_;refine Late.o 12 rfl (fun K hK=>?_);go_simp;refine hK _ _ (fun h=>absurd rfl h) ?_;clear hK K;try simp only[lX]
     refine Late.done (by kernel_rfl) ?_ _;clear e2 f2 nI c12 a0' a1' e1
     go_wp2_with fail
     go_roundw
     case rel=>
      have Jd:Ext (W6.setCell ⟨lb,lo+x.want,none⟩ (.slice va l.length vc)) (W6.setCell ⟨lb,lo+x.want,none⟩ (.slice va l.length vc)).drew:=ax.drew;exact⟨k+1,{r' with there:=r'.there.modify x.group fun ls=>ls.set x.want l},_,by go_num,af,HK.out.1.ext Jd,HK.out.2.1.trans (cu.ext Jd),HK.out.2.2.1.kept Jd id,ho2,bM.go HK.out.2.2.2 Jd (fun _ _ f=>f) (fun _ _ e=>e),HPN,HRW,by show _=_;rw[List.length_modify];exact Y4.out,aiX⟩
     case measure=>simp[intOf];omega
    ·have hcmp:(Pl.oM (Pl.gZ q x)==Pl.dz x.page.sum)=false:=by
      have:¬Pl.oM (Pl.gZ q x)=Pl.dz x.page.sum:=fun e=>hse (Rv hslt hsum e)
      simpa using this
     refine⟨_,rfl,hK _ _ (fun _=>Y6) ?_⟩;clear hK K;try simp only[lX]
     refine Late.t 8 [9] rfl Y6 ?_;refine Late.o 9 rfl (fun K hK=>?_);go_simp;refine hK _ _ (fun h=>absurd rfl h) ?_;clear hK K;try simp only[lX]
     refine Late.done (by kernel_rfl) ?_ _;have hx6:=x5.trans x6;have l9:=MF.ext hx6;have c6:=l9.blk.cell 6;have f6:=l9.blk.free 6;simp only[dm,I,au]at c6;have h7:=l9.p8 6 (.int .i64 2) (r':={r' with state:=2}) (by simp[dm,I]) ⟨l9.inn.gP,l9.inn.top,l9.inn.names,l9.inn.iA,l9.inn.pieces,l9.inn.cB,l9.inn.parts,l9.inn.rows,l9.inn.there⟩;have k7:=l9.p9 6 (.int .i64 2);have Je:=hide (And.intro h7 ((hW.trans (cu.ext (xA.trans hx6))).trans ⟨k7,fun _ _=>rfl⟩));have HE:Hid (Pl.iB q q.parts r={r' with state:=2}):=by
      show _=_;rw[←DT.out];unfold Pl.iB;rw[Gc.out,hde];simp only;rw[if_neg hse]
     clear h7 k7
     go_wp2_with fail
     refine bodyPost_ret (results_none rfl _ _ _) rfl ?_;rw[HE.out];exact⟨rfl,iZ,Je.out.1,Je.out.2⟩
  ·obtain rfl:k=q.parts.length:=af;have k1:¬(q.parts.length:Int)<(q.parts.length:Int):=af;have HE:Hid (Pl.iB q q.parts r=r'):=by
    show _=_;rw[←HF.out,List.drop_length];rfl
   clear HF
   go_wp2_with fail
   go_end0
   rw[HE.out];exact⟨rfl,iZ,hR,hW⟩
def KL (n:Nat)(col:bU)(w:World)(i:Nat)(x:Value)(l:List Pl.eU):Prop:=Own w 5 x l.length (l.flatMap dA)∧∀g,x.ownBlock=some g→col g=.data i∧n≤g
structure nJ (n:Nat)(col:bU)(w:World)(Y:Nat)(r:Pl.cO)(bJ eG:List Value)(nv pv rv tv:Value):Prop where
 gP:col Y=.scan
 top:∀k,w.heap.size≤k→col k=.out
 blk:bK w Y (dm r nv pv rv tv) 118
 names:bM (fun b=>col b=.ro) false w 1 nv r.want.length (r.want.map tx)
 iA:bJ.length=r.pieces.length
 pieces:Own w 9 pv r.pieces.length (kU bJ r.pieces)
 cB:∀g,pv.ownBlock=some g→col g=.asked
 parts:∀(i:Nat)(x:Value)(p:Pl.bQ),bJ[i]?=some x→r.pieces[i]?=some p→KL n col w i x p.parts
 rows:bM (fun b=>col b=.ro) false w 1 rv r.rows.length (r.rows.map fun(n:Nat)=>I n)
 EU:eG.length=r.there.length
 D7:Own w 1 tv r.there.length eG
 wK:∀g,tv.ownBlock=some g→col g=.groups
 lists:∀(i:Nat)(lv:Value)(l:List (List Int)),eG[i]?=some lv→r.there[i]?=some l→Br col w i lv l
def jM (col:bU)(v:Value)(c:Col):bU:=fun b=>if v.ownBlock=some b then c else col b
theorem pG {col:bU}{v:Value}{c:Col}{g:Nat}(h:v.ownBlock=some g):jM col v c g=c:=by unfold jM;rw[if_pos h]
theorem mY {col:bU}{v:Value}{c:Col}{b:Nat}(h:¬v.ownBlock=some b):jM col v c b=col b:=by unfold jM;rw[if_neg h]
theorem KL.go {n:Nat}{col bV:bU}{S:Nat→Prop}{w w':World}{i:Nat}{x:Value}{l:List Pl.eU}(h:KL n col w i x l)(k:Kp S w w')(hS:∀b,S b→col b≠.data i)(hc:∀b,b<w.heap.size→bV b=col b):KL n bV w' i x l:=
 ⟨h.1.kept k (fun g hg e=>hS g e (h.2 g hg).1),fun g hg=>⟨by rw[hc g (h.1.lt hg)];exact(h.2 g hg).1,(h.2 g hg).2⟩⟩
section
variable{n Y:Nat}{col:bU}{w w':World}{r:Pl.cO}{bJ eG:List Value}{nv pv rv tv:Value}
theorem nJ.kept {S:Nat→Prop}(h:nJ n col w Y r bJ eG nv pv rv tv)(k:Kp S w w')(hS:∀i,S i→col i=.out):nJ n col w' Y r bJ eG nv pv rv tv:=by
 have hno:∀c,c≠.out→∀i,S i→col i≠c:=fun c hc i hi e=>hc (by rw[←e];exact hS i hi)
 exact⟨h.gP,fun i hi=>h.top i (aO k.size hi),h.blk.kept k (fun e=>hno _ aj Y e h.gP),h.names.go k (fun i hi hs=>hno _ aj i hs hi) (fun _ _ e=>e),h.iA,h.pieces.kept k (fun g hg e=>hno _ aj g e (h.cB g hg)),h.cB,fun i x p a b=>(h.parts i x p a b).go k (hno _ aj) (fun _ _=>rfl),h.rows.go k (fun i hi hs=>hno _ aj i hs hi) (fun _ _ e=>e),h.EU,h.D7.kept k (fun g hg e=>hno _ aj g e (h.wK g hg)),h.wK,fun i lv l a b=>(h.lists i lv l a b).go k (hno _ aj) (hno _ aj) (fun _ _=>rfl)⟩
theorem nJ.ext (h:nJ n col w Y r bJ eG nv pv rv tv)(k:Ext w w'):nJ n col w' Y r bJ eG nv pv rv tv:=h.kept k (fun _ f=>f.elim)
def BV (n:Nat)(col:bU):bU:=fun b=>if n≤b then(match col b with|.data _=>.ro|c=>c)else col b
theorem Us {b:Nat}(h:∀i,col b≠.data i):BV n col b=col b:=by
 unfold BV;by_cases e:n≤b
 ·rw[if_pos e];split
  ·rename_i i hi;exact absurd hi (h i)
  ·rfl
 ·rw[if_neg e]
theorem nJ.done (h:nJ n col w Y r bJ eG nv pv rv tv):dK (BV n col) w Y r bJ nv pv rv tv:=by
 have hk:∀c,(∀i,c≠.data i)→∀b,col b=c→BV n col b=c:=fun c hc b hb=>by rw[Us (fun i e=>hc i (by rw[←hb,e])),hb]
 have hro:=hk .ro aj;have kp:Kp (fun _=>False) w w:=Kp.refl _ _;refine⟨h.blk,hk _ aj Y h.gP,fun i hi=>hk _ aj i (h.top i hi),h.names.go kp (fun _ _ f=>f) (fun i _ e=>hro i e),h.iA,h.pieces,fun g hg=>hk _ aj g (h.cB g hg),fun i x p a b=>?_,h.rows.go kp (fun _ _ f=>f) (fun i _ e=>hro i e),eG,h.EU,?_,fun i lv l a b=>?_⟩
 ·obtain⟨h1,h2⟩:=h.parts i x p a b;exact(h1.rowAt (fun b=>BV n col b=.ro) (fun g hg=>by
   obtain⟨e,hn⟩:=h2 g hg;unfold BV;rw[if_pos hn,e])).weak
 ·exact h.D7.rowAt _ (fun g hg=>hk _ aj g (h.wK g hg))
 ·obtain⟨vs,a1,a2,a3⟩:=h.lists i lv l a b;exact⟨vs,a1,a2.go kp (fun _ _ f=>f) (fun b _ e=>hk _ aj b e),fun j u l' a b=>⟨(a3 j u l' a b).1.go kp (fun _ _ f=>f) (fun b _ e=>hro b e),(a3 j u l' a b).2⟩⟩
theorem nJ.start (h:dK col w Y r bJ nv pv rv (.slice none 0 0))(ht:r.there=[]){w1:World}{rows:List Nat}{rv':Value}(k:Kp (fun b=>b=Y) w w1)(hb:bK w1 Y (dm {r with pieces:=[],rows:=rows} nv (.slice none 0 0) rv' (.slice none 0 0)) 118)(hr:bM (fun b=>col b=.ro) false w 1 rv' rows.length (rows.map fun(n:Nat)=>I n)):nJ n col w1 Y {r with pieces:=[],rows:=rows} [] [] nv (.slice none 0 0) rv' (.slice none 0 0):=by
 have hno:∀c,c≠.scan→∀i,col i=c→¬i=Y:=fun c hc i hi e=>hc (by rw[←hi,e];exact h.inn.gP)
 refine⟨h.inn.gP,fun i hi=>h.inn.top i (aO k.size hi),hb,h.inn.names.go k (hno _ aj) (fun _ _ e=>e),rfl,Own.nil _ _,fun g hg=>by simp[Value.ownBlock]at hg,fun i x p a=>by simp at a,hr.go k (hno _ aj) (fun _ _ e=>e),by show _=r.there.length;rw[ht];rfl,by show Own _ _ _ r.there.length _;rw[ht];exact Own.nil _ _,fun g hg=>by simp[Value.ownBlock]at hg,fun i x p a=>by simp at a⟩
theorem EW {u:World}{v v':Value}{c:Col}{N:Nat}(hs:Sep u v v')(hN:N≤u.heap.size)(hv:∀g,v.ownBlock=some g→g<N→col g=c){vZ:bU}(h0:∀b,b<N→col b=vZ b):∀b,b<N→jM col v' c b=vZ b:=fun b hb=>by
 by_cases e:v'.ownBlock=some b
 ·rw[pG e];rcases eT hs e with e'|e'
  ·rw[←h0 b hb,hv b e' hb]
  ·omega
 ·rw[mY e];exact h0 b hb
theorem Ag {v:Value}{c:Col}{N:Nat}(hv:∀g,v.ownBlock=some g→N≤g):∀b,b<N→jM col v c b=col b:=fun b hb=>mY (fun e=>by have:=hv b e;omega)
theorem nJ.Ut (h:nJ n col w Y r bJ eG nv pv rv tv){u w3:World}{lv v':Value}{m:Nat}(x:Ext w u)(hl:Own u 1 lv m (List.replicate m (.slice none 0 0)))(hln:∀g,lv.ownBlock=some g→w.heap.size≤g)(kp:Kp (fun b=>tv.ownBlock=some b) u w3)(hs:Sep u tv v')(ho:Own w3 1 v' (r.there.length+1) (eG++[lv])):
 nJ n (jM (jM col lv (.lists r.there.length)) v' .groups) (w3.setCell ⟨Y,12,none⟩ v') Y {r with there:=r.there++[List.replicate m []]} bJ (eG++[lv]) nv pv rv v'∧cu col w (w3.setCell ⟨Y,12,none⟩ v') (jM (jM col lv (.lists r.there.length)) v' .groups):=by
 have hne:∀g,lv.ownBlock=some g→¬v'.ownBlock=some g:=fun g hg e=>by
  have h1:=hln g hg;have h2:=hl.lt hg;rcases eT hs e with e'|e'
  ·have:=h.D7.lt e';omega
  ·omega
 have hc1:∀b,b<w.heap.size→jM col lv (.lists r.there.length) b=col b:=Ag hln;have hc:∀b,b<w.heap.size→jM (jM col lv (.lists r.there.length)) v' .groups b=col b:=EW hs x.size (fun g hg hlt=>by rw[hc1 g hlt];exact h.wK g hg) hc1;have kq:Kp (fun b=>b=Y∨tv.ownBlock=some b) w (w3.setCell ⟨Y,12,none⟩ v'):=((Kp.cZ x).trans (kp.mono (fun i _ e=>.inr e))).trans ((bI w3 Y 12 v').mono (fun i _ e=>.inl e));have hno:∀c,c≠.scan→c≠.groups→∀i,(i=Y∨tv.ownBlock=some i)→col i≠c:=fun c h1 h2 i hi e=>by
  rcases hi with hi|hi
  ·rw[hi,h.gP]at e;exact h1 e.symm
  ·rw[h.wK i hi]at e;exact h2 e.symm
 have hz:(w3.setCell ⟨Y,12,none⟩ v').heap.size=w3.heap.size:=size_set _ _ _;have Uu:¬tv.ownBlock=some Y:=fun e=>by have:=h.wK Y e;rw[h.gP]at this;cases this
 have Uv:¬v'.ownBlock=some Y:=fun e=>by
  rcases eT hs e with e'|e'
  ·exact Uu e'
  ·have:=h.blk.lt;have:=x.size;omega
 have hlv3:Own (w3.setCell ⟨Y,12,none⟩ v') 1 lv m (List.replicate m (.slice none 0 0)):=by
  refine(hl.kept kp (fun g hg e=>?_)).kept (bI w3 Y 12 v') (fun g hg e=>?_)
  ·have:=hln g hg;have:=h.D7.lt e;omega
  ·have:=hln g hg;have:=h.blk.lt;omega
 refine⟨⟨by rw[hc Y h.blk.lt];exact h.gP,fun i hi=>?_,((h.blk.kept x id).kept kp Uu).set 12 v',h.names.go kq (fun i hi hs=>hno _ aj aj i hs hi) (fun i hlt e=>by rw[hc i hlt];exact e),h.iA,h.pieces.kept kq (fun g hg e=>hno .asked aj aj g e (h.cB g hg)),fun g hg=>by rw[hc g (h.pieces.lt hg)];exact h.cB g hg,fun i x p a b=>(h.parts i x p a b).go kq (hno _ aj aj) hc,h.rows.go kq (fun i hi hs=>hno _ aj aj i hs hi) (fun i hlt e=>by rw[hc i hlt];exact e),by simp[h.EU],?_,fun g hg=>pG hg,fun i v l a b=>?_⟩,kq.mono (fun i _ e=>hno .out aj aj i e),hc⟩
 ·rw[hz]at hi;have hu:=kp.size;rw[mY (fun e=>by have:=ho.lt e;omega),mY (fun e=>by have:=hl.lt e;omega)];exact h.top i (by have:=x.size;omega)
 ·have:=ho.kept (bI w3 Y 12 v') (fun g hg e=>Uv (by rw[←e];exact hg));show Own _ 1 v' (r.there++[List.replicate m []]).length _;rw[aD];exact this
 ·change(r.there++[List.replicate m []])[i]?=some l at b;have hll:=h.EU;by_cases hi:i<eG.length
  ·rw[aS hi]at a;rw[aS af]at b;exact(h.lists i v l a b).go kq (hno _ aj aj) (hno _ aj aj) hc
  ·rw[aP af]at a;rw[aP af]at b;have hz:i-eG.length=0:=by
    cases hq:i-eG.length with
    |zero=>rfl
    |succ n=>rw[hq]at a;simp at a
   rw[←h.EU,hz]at b;rw[hz]at a;simp at a b;subst a;subst b;obtain rfl:i=r.there.length:=af;refine⟨List.replicate m (.slice none 0 0),aj,?_,fun j u l a b=>?_⟩
   ·have:=hlv3.rowAt (fun b=>jM (jM col lv (.lists r.there.length)) v' .groups b=.lists r.there.length) (fun g hg=>by rw[mY (hne g hg),pG hg]);simpa using this
   ·rw[List.getElem?_replicate]at a b;split at a
    ·rename_i hj;rw[if_pos hj]at b;cases a;cases b;exact⟨bM.nil _ _ _ _,fun _=>rfl⟩
    ·cases a
theorem Ry (bJ:List Value)(l:List Pl.bQ)(xv:Value)(p:Pl.bQ)(h:bJ.length=l.length):kU (bJ++[xv]) (l++[p])=kU bJ l++dx xv p:=by
 unfold kU;rw[List.zipWith_append h];simp
theorem nJ.Uw (h:nJ n col w Y r bJ eG nv pv rv tv){u w3:World}{xv v':Value}{q:Pl.bQ}(x:Ext w u)(hl:Own u 5 xv q.parts.length (q.parts.flatMap dA))(hln:∀g,xv.ownBlock=some g→w.heap.size≤g)(hn:n≤w.heap.size)(kp:Kp (fun b=>pv.ownBlock=some b) u w3)(hs:Sep u pv v')(ho:Own w3 9 v' (r.pieces.length+1) (kU bJ r.pieces++dx xv q)):
 nJ n (jM (jM col xv (.data r.pieces.length)) v' .asked) (w3.setCell ⟨Y,7,none⟩ v') Y {r with pieces:=r.pieces++[q]} (bJ++[xv]) eG nv v' rv tv∧cu col w (w3.setCell ⟨Y,7,none⟩ v') (jM (jM col xv (.data r.pieces.length)) v' .asked):=by
 have hne:∀g,xv.ownBlock=some g→¬v'.ownBlock=some g:=fun g hg e=>by
  have h1:=hln g hg;have h2:=hl.lt hg;rcases eT hs e with e'|e'
  ·have:=h.pieces.lt e';omega
  ·omega
 have hc1:∀b,b<w.heap.size→jM col xv (.data r.pieces.length) b=col b:=Ag hln;have hc:∀b,b<w.heap.size→jM (jM col xv (.data r.pieces.length)) v' .asked b=col b:=EW hs x.size (fun g hg hlt=>by rw[hc1 g hlt];exact h.cB g hg) hc1;have kq:Kp (fun b=>b=Y∨pv.ownBlock=some b) w (w3.setCell ⟨Y,7,none⟩ v'):=((Kp.cZ x).trans (kp.mono (fun i _ e=>.inr e))).trans ((bI w3 Y 7 v').mono (fun i _ e=>.inl e));have hno:∀c,c≠.scan→c≠.asked→∀i,(i=Y∨pv.ownBlock=some i)→col i≠c:=fun c h1 h2 i hi e=>by
  rcases hi with hi|hi
  ·rw[hi,h.gP]at e;exact h1 e.symm
  ·rw[h.cB i hi]at e;exact h2 e.symm
 have hz:(w3.setCell ⟨Y,7,none⟩ v').heap.size=w3.heap.size:=size_set _ _ _;have Uu:¬pv.ownBlock=some Y:=fun e=>by have:=h.cB Y e;rw[h.gP]at this;cases this
 have Uv:¬v'.ownBlock=some Y:=fun e=>by
  rcases eT hs e with e'|e'
  ·exact Uu e'
  ·have:=h.blk.lt;have:=x.size;omega
 have hlv3:Own (w3.setCell ⟨Y,7,none⟩ v') 5 xv q.parts.length (q.parts.flatMap dA):=by
  refine(hl.kept kp (fun g hg e=>?_)).kept (bI w3 Y 7 v') (fun g hg e=>?_)
  ·have:=hln g hg;have:=h.pieces.lt e;omega
  ·have:=hln g hg;have:=h.blk.lt;omega
 refine⟨⟨by rw[hc Y h.blk.lt];exact h.gP,fun i hi=>?_,((h.blk.kept x id).kept kp Uu).set 7 v',h.names.go kq (fun i hi hs=>hno _ aj aj i hs hi) (fun i hlt e=>by rw[hc i hlt];exact e),by simp[h.iA],?_,fun g hg=>pG hg,fun i xw p a b=>?_,h.rows.go kq (fun i hi hs=>hno _ aj aj i hs hi) (fun i hlt e=>by rw[hc i hlt];exact e),h.EU,h.D7.kept kq (fun g hg e=>hno .groups aj aj g e (h.wK g hg)),fun g hg=>by rw[hc g (h.D7.lt hg)];exact h.wK g hg,fun i lv l a b=>(h.lists i lv l a b).go kq (hno _ aj aj) (hno _ aj aj) hc⟩,kq.mono (fun i _ e=>hno .out aj aj i e),hc⟩
 ·rw[hz]at hi;have hu:=kp.size;rw[mY (fun e=>by have:=ho.lt e;omega),mY (fun e=>by have:=hl.lt e;omega)];exact h.top i (by have:=x.size;omega)
 ·have:=ho.kept (bI w3 Y 7 v') (fun g hg e=>Uv (by rw[←e];exact hg));show Own _ 9 v' (r.pieces++[q]).length (kU (bJ++[xv]) (r.pieces++[q]));rw[aD,Ry _ _ _ _ h.iA];exact this
 ·change(r.pieces++[q])[i]?=some p at b;have hll:=h.iA;by_cases hi:i<bJ.length
  ·rw[aS hi]at a;rw[aS af]at b;exact(h.parts i xw p a b).go kq (hno _ aj aj) hc
  ·rw[aP af]at a;rw[aP af]at b;have hz:i-bJ.length=0:=by
    cases hq:i-bJ.length with
    |zero=>rfl
    |succ n=>rw[hq]at a;simp at a
   rw[←h.iA,hz]at b;rw[hz]at a;simp at a b;subst a;subst b;obtain rfl:i=r.pieces.length:=af;exact⟨hlv3,fun g hg=>⟨by rw[mY (hne g hg),pG hg],aO hn (hln g hg)⟩⟩
theorem Rz :∀(bJ:List Value)(l:List Pl.bQ)(_:bJ.length=l.length)(i:Nat)(v:Value)(f:Pl.bQ→Pl.bQ),i<l.length→(∀a p,(dx a p).set 8 v=dx v (f p))→(kU bJ l).set (i*9+8) v=kU (bJ.set i v) (l.modify i f):=by
 intro bJ;induction bJ with
 |nil=>intro l hl i v f hi _;simp at hl;omega
 |cons a t ih=>
  intro l hl i v f hi hf;cases l with
  |nil=>simp at hi
  |cons p s=>
   unfold kU at*;cases i with
   |zero=>
    simp only[List.zipWith_cons_cons,List.flatten_cons,List.modify_zero_cons,Nat.zero_mul,Nat.zero_add,List.set_cons_zero];rw[List.set_append_left _ _ (by simp[dx]),hf]
   |succ i=>
    simp only[List.zipWith_cons_cons,List.flatten_cons,List.modify_succ_cons,List.set_cons_succ];rw[List.set_append_right _ _ (by simp[dx];omega)]
    congr 1
    rw[show(i+1)*9+8-(dx a p).length=i*9+8 by simp[dx];omega];exact ih s (by simpa using hl) i v f (by simpa using hi) hf
theorem nJ.XI {g cap m:Nat}(h:nJ n col w Y r bJ eG nv (.slice (some ⟨g,0,none⟩) m cap) rv tv){i:Nat}{p:Pl.bQ}{xv v':Value}{w3:World}{long:Nat}{y:Pl.eU}(hi:r.pieces[i]?=some p)(hx:bJ[i]?=some xv)(hn:n≤w.heap.size)(kp:Kp (fun b=>xv.ownBlock=some b) (w.setCell ⟨g,i*9+2,none⟩ (I long)) w3)(hs:Sep (w.setCell ⟨g,i*9+2,none⟩ (I long)) xv v')(ho:Own w3 5 v' (p.parts.length+1) (p.parts.flatMap dA++dA y)):
 nJ n (jM col v' (.data i)) (w3.setCell ⟨g,i*9+8,none⟩ v') Y {r with pieces:=r.pieces.modify i fun p=>{p with length:=long,parts:=p.parts++[y]} } (bJ.set i v') eG nv (.slice (some ⟨g,0,none⟩) m cap) rv tv∧cu col w (w3.setCell ⟨g,i*9+8,none⟩ v') (jM col v' (.data i)):=by
 have hil:i<r.pieces.length:=(aL.1 hi).1;have hgc:col g=.asked:=h.cB g rfl;have hm:m=r.pieces.length:=by
  obtain⟨a,c,e,-⟩:=h.pieces.shape;cases e;rfl
 subst hm;obtain⟨hxo,hxc⟩:=h.parts i xv p hx hi;have hz0:(w.setCell ⟨g,i*9+2,none⟩ (I long)).heap.size=w.heap.size:=size_set _ _ _;have hgx:∀b,xv.ownBlock=some b→b≠g:=fun b hb e=>by have:=(hxc b hb).1;rw[e,hgc]at this;cases this
 have oh:g<w.heap.size:=h.pieces.lt rfl;have hgv:¬v'.ownBlock=some g:=fun e=>by
  rcases eT hs e with e'|e'
  ·exact hgx g e' rfl
  ·omega
 have hc:∀b,b<w.heap.size→jM col v' (.data i) b=col b:=EW hs (Nat.le_of_eq hz0.symm) (fun b hb _=>(hxc b hb).1) (fun _ _=>rfl);have kq:Kp (fun b=>b=g∨xv.ownBlock=some b) w (w3.setCell ⟨g,i*9+8,none⟩ v'):=(((bI w g _ _).mono (fun i _ e=>.inl e)).trans (kp.mono (fun i _ e=>.inr e))).trans ((bI w3 g _ v').mono (fun i _ e=>.inl e));have hno:∀c,c≠.asked→c≠.data i→∀b,(b=g∨xv.ownBlock=some b)→col b≠c:=fun c h1 h2 b hb e=>by
  rcases hb with hb|hb
  ·rw[hb,hgc]at e;exact h1 e.symm
  ·rw[(hxc b hb).1]at e;exact h2 e.symm
 have hz:(w3.setCell ⟨g,i*9+8,none⟩ v').heap.size=w3.heap.size:=size_set _ _ _;have hP1:=h.pieces.setCell (i*9+2) af (I long);rw[I6 bJ r.pieces h.iA i 2 (I long) (fun p=>{p with length:=long}) hil af (fun _ _=>by simp[dx])]at hP1;have hP2:=(hP1.kept kp (fun b hb e=>by simp[Value.ownBlock]at hb;exact hgx b e hb.symm)).setCell (i*9+8) af v';rw[Rz bJ (r.pieces.modify i _) (by rw[h.iA];simp) i v' (fun p=>{p with parts:=p.parts++[y]}) (by simpa using hil) (fun _ _=>by simp[dx]),List.modify_modify_eq]at hP2;refine⟨⟨by rw[hc Y h.blk.lt];exact h.gP,fun j hj=>?_,h.blk.kept kq (fun e=>hno .scan aj aj Y e h.gP),h.names.go kq (fun i hi hs=>hno _ aj aj i hs hi) (fun i hlt e=>by rw[hc i hlt];exact e),by simp[h.iA],?_,fun b hb=>by rw[hc b (h.pieces.lt hb)];exact h.cB b hb,fun j xw q a b=>?_,h.rows.go kq (fun i hi hs=>hno _ aj aj i hs hi) (fun i hlt e=>by rw[hc i hlt];exact e),h.EU,h.D7.kept kq (fun g hg e=>hno .groups aj aj g e (h.wK g hg)),fun g hg=>by rw[hc g (h.D7.lt hg)];exact h.wK g hg,fun i lv l a b=>(h.lists i lv l a b).go kq (hno _ aj aj) (hno _ aj aj) hc⟩,kq.mono (fun i _ e=>hno .out aj aj i e),hc⟩
 ·rw[hz]at hj;have hu:=kp.size;rw[mY (fun e=>by have:=ho.lt e;omega)];exact h.top j af
 ·show Own _ 9 _ (r.pieces.modify i _).length (kU _ (r.pieces.modify i _));rw[List.length_modify];exact hP2
 ·change(r.pieces.modify i _)[j]?=some q at b;rw[List.getElem?_modify]at b;by_cases hij:i=j
  ·subst hij;rw[List.getElem?_set_self (by rw[h.iA];exact hil)]at a;rw[hi]at b;simp at b;cases a;subst b;refine⟨?_,fun b hb=>⟨pG hb,?_⟩⟩
   ·have:=ho.kept (bI w3 g (i*9+8) v') (fun b hb e=>hgv (by rw[←e];exact hb));show Own _ 5 _ (p.parts++[y]).length ((p.parts++[y]).flatMap dA);rw[aD,List.flatMap_append];simpa using this
   ·rcases eT hs hb with e|e
    ·exact(hxc b e).2
    ·omega
  ·rw[List.getElem?_set_ne hij]at a;cases hq:r.pieces[j]? with
   |none=>rw[hq]at b;simp at b
   |some p1=>
    rw[hq]at b;simp[hij]at b;subst b;exact(h.parts j xw p1 a hq).go kq (hno _ aj (by simp;omega)) hc
theorem nJ.piece {g cap m:Nat}(h:nJ n col w Y r bJ eG nv (.slice (some ⟨g,0,none⟩) m cap) rv tv)(i:Nat)(hi:i<r.pieces.length):
 ∃x,bJ[i]?=some x∧∀j,j<9→w.cell? ⟨g,i*9+j,none⟩=(dx x r.pieces[i])[j]?∧w.frozen? ⟨g,i*9+j,none⟩=false:=by
 have hpl:=h.iA;refine⟨bJ[i]'af,ay _,fun j hj=>?_⟩;rcases h.pieces.2 with⟨e,_⟩|⟨g',cap',e,h1,_,_,h4,h5⟩
 ·cases e
 ·cases e;refine⟨by rw[h4 _ af,Lc bJ r.pieces hpl i j hi hj],(h5 _ ?_).2⟩;have:=Nat.mul_le_mul_right 9 h1;omega
end
theorem MH {α:Type}(f:α→Nat)(A B:List α)(x:α)(hB:∀b∈B,f x<f b)(hA:∀a,A.getLast?=some a→¬f x<f a):Pl.uD f (A++B) x=A++[x]++B:=by
 unfold Pl.uD;have hB':∀b∈B.reverse,decide (f x<f b)=true:=fun b hb=>by simpa using hB b (by simpa using hb)
 rw[List.reverse_append,List.dropWhile_append_of_pos hB',List.takeWhile_append_of_pos hB'];have hd:A.reverse.dropWhile (fun y=>decide (f x<f y))=A.reverse∧A.reverse.takeWhile (fun y=>decide (f x<f y))=[]:=by
  cases hq:A.reverse with
  |nil=>simp
  |cons a t=>
   have ha:A.getLast?=some a:=by rw[List.getLast?_eq_head?_reverse,hq];rfl
   have:=hA a ha;simp[this]
 rw[hd.1,hd.2];simp
theorem P5 :∀(L:List Pl.eU)(k:Nat)(x:Pl.eU),k<L.length→((((((L.flatMap dA).set (k*5) (I x.group)).set (k*5+1) (I x.want)).set (k*5+2) (I x.page.place)).set (k*5+3) (I x.page.length)).set (k*5+4) (tx (Pl.dz x.page.sum)))=(L.set k x).flatMap dA
 |[],_,_,h=>by simp at h
 |a::t,0,x,_=>by simp[dA]
 |a::t,k+1,x,h=>by
  have ih:=P5 t k x (by simpa using h);have hl:(dA a).length=5:=rfl;simp only[List.flatMap_cons,List.set_cons_succ];rw[←ih];rw[List.set_append_right _ _ af,List.set_append_right _ _ af,List.set_append_right _ _ af,List.set_append_right _ _ af,List.set_append_right _ _ af,hl];rw[show(k+1)*5-5=k*5 from af,show(k+1)*5+1-5=k*5+1 from af,show(k+1)*5+2-5=k*5+2 from af,show(k+1)*5+3-5=k*5+3 from af,show(k+1)*5+4-5=k*5+4 from af]
abbrev Il (w:World)(g o:Nat)(x:Pl.eU):World:=((((w.setCell ⟨g,o,none⟩ (I x.group)).setCell ⟨g,o+1,none⟩ (I x.want)).setCell ⟨g,o+2,none⟩ (I x.page.place)).setCell ⟨g,o+3,none⟩ (I x.page.length)).setCell ⟨g,o+4,none⟩ (tx (Pl.dz x.page.sum))
theorem Own.Il {w:World}{n g cap:Nat}{L:List Pl.eU}(h:Own w 5 (.slice (some ⟨g,0,none⟩) n cap) n (L.flatMap dA))(hn:L.length=n)(k:Nat)(hk:k<n)(x:Pl.eU):Own (Il w g (k*5) x) 5 (.slice (some ⟨g,0,none⟩) n cap) n ((L.set k x).flatMap dA):=by
 have h1:=((((h.setCell (k*5) af (I x.group)).setCell (k*5+1) af (I x.want)).setCell (k*5+2) af (I x.page.place)).setCell (k*5+3) af (I x.page.length)).setCell (k*5+4) af (tx (Pl.dz x.page.sum));rw[P5 L k x af]at h1;exact h1
theorem Im (w:World)(g o:Nat)(x:Pl.eU):Kp (fun b=>b=g) w (Il w g o x):=((((bI _ _ _ _).trans (bI _ _ _ _)).trans (bI _ _ _ _)).trans (bI _ _ _ _)).trans (bI _ _ _ _)
theorem aas {α:Type}(A B:List α)(a x:α):(((A++[a])++[x]++B).set (A.length+1) a).set A.length x=A++[x]++(a::B):=by
 simp[List.set_append_right]
theorem Ux {α:Type}(f:α→Nat)(l:List α)(x:α):(Pl.uD f l x).length=l.length+1:=by
 unfold Pl.uD;have:=congrArg List.length (List.takeWhile_append_dropWhile (p:=fun y=>decide (f x<f y)) (l:=l.reverse));rw[aD,List.length_reverse]at this;simp only[aD,List.length_reverse,List.length_singleton];omega
theorem Uy {α:Type}{f:α→Nat}{l:List α}{x y:α}(h:y∈Pl.uD f l x):y∈l∨y=x:=by
 unfold Pl.uD at h;simp only[aI,List.mem_reverse,aZ]at h;rcases h with(h|h)|h
 ·exact .inl (List.mem_reverse.1 ((List.dropWhile_sublist _).subset h))
 ·exact .inr h
 ·exact .inl (List.mem_reverse.1 ((List.takeWhile_sublist _).subset h))
def l_ (g:Nat)(pg:List Pl.ku)(bD:List Nat)(j:Nat):List Pl.eU:=((Pl.p_ g pg bD).take j).foldl Pl.Bw []
theorem yU (g:Nat)(pg:List Pl.ku)(bD:List Nat)(j:Nat)(hj:j<bD.length):l_ g pg bD (j+1)=Pl.Bw (l_ g pg bD j) ⟨g,j,pg.getD (bD.getD j 0) default⟩:=by
 have hl:j<(Pl.p_ g pg bD).length:=by simp[Pl.p_];exact hj
 unfold l_;rw[aF hl,List.foldl_append];simp[Pl.p_]
theorem vM (g:Nat)(pg:List Pl.ku)(bD:List Nat):∀j,j≤bD.length→(l_ g pg bD j).length=j
 |0,_=>by simp[l_]
 |j+1,h=>by
  rw[yU g pg bD j h];unfold Pl.Bw;rw[Ux,vM g pg bD j af]
theorem Gd (g:Nat)(pg:List Pl.ku)(bD:List Nat):∀j,j≤bD.length→∀x∈l_ g pg bD j,x.page∈pg∨x.page=default
 |0,_,x,hx=>by simp[l_]at hx
 |j+1,h,x,hx=>by
  rw[yU g pg bD j h]at hx;rcases Uy hx with hx|rfl
  ·exact Gd g pg bD j af x hx
  ·show pg.getD _ default∈pg∨pg.getD _ default=default;rw[aC];cases hq:pg[bD.getD j 0]? with
   |none=>exact .inr rfl
   |some y=>exact .inl (List.mem_of_getElem? hq)
theorem Gf (g:Nat)(pg:List Pl.ku)(bD:List Nat):l_ g pg bD bD.length=Pl.CX (Pl.p_ g pg bD):=by
 unfold l_ Pl.CX;rw[List.take_of_length_le (by simp[Pl.p_])]
theorem RA (gap:Nat)(l:List Pl.bQ)(x:Pl.eU):(Pl.iX gap l x).length≤l.length+1:=by
 unfold Pl.iX;split
 ·simp
 ·rename_i p hp;have:l≠[]:=fun e=>by rw[e]at hp;simp at hp
  have:=List.length_pos_iff.2 this;split
  ·simp
  ·simp
theorem Gg (gap:Nat):∀(l:List Pl.eU)(a:List Pl.bQ),(l.foldl (Pl.iX gap) a).length≤a.length+l.length
 |[],a=>aj
 |x::t,a=>by
  have:=Gg gap t (Pl.iX gap a x);have:=RA gap a x;simp only[List.foldl_cons,aR];omega
theorem D8 (gap:Nat)(bD:List Nat)(pages:List (List Pl.ku)):∀k,(Pl.gL gap bD pages k).length≤k*bD.length
 |0=>by simp[Pl.gL]
 |k+1=>by
  have h1:=D8 gap bD pages k;have h2:=Gg gap (Pl.CX (Pl.p_ k (pages.getD k []) bD)) [];have h3:=vM k (pages.getD k []) bD bD.length (aK _);rw[Gf]at h3;unfold Pl.gL Pl.wu;rw[aD,Nat.add_mul];rw[List.length_nil,Nat.zero_add]at h2;omega
theorem Own.partAt {w:World}{g cap n:Nat}{L:List Pl.eU}(h:Own w 5 (.slice (some ⟨g,0,none⟩) n cap) n (L.flatMap dA)){k:Nat}{y:Pl.eU}(hk:L[k]?=some y)(hn:k<n):∀j,j<5→w.cell? ⟨g,k*5+j,none⟩=(dA y)[j]?∧w.frozen? ⟨g,k*5+j,none⟩=false:=fun j hj=>by
 obtain⟨hkl,rfl⟩:=aL.1 hk;rcases h.2 with⟨e,_⟩|⟨g',cap',e,h1,_,_,h4,h5⟩
 ·cases e
 ·cases e;refine⟨by rw[h4 _ af,ET L k j hkl hj],(h5 _ ?_).2⟩;have:=Nat.mul_le_mul_right 5 h1;omega
def wL (x:Pl.ku):List Value:=[I x.place,I x.length,tx (Pl.dz x.sum)]
theorem aat (l:List Pl.ku)(k j:Nat)(hk:k<l.length)(hj:j<3):(l.flatMap wL)[k*3+j]?=(wL l[k])[j]?:=Ur wL 3 (fun _=>rfl) l k j hk hj
theorem OT {ops:Array Oper}{o:Oper}{a:Act}{w:World}{K:Act→World→Prop}{Q:Exit→Act→World→Prop}{E:Prop}(hg:o.guard=none)(l c:Operand)(t:TypeId)(hop:o.op=Op.makeSlice t l c)
 (e:TypeId)(z:Value)(bytes:Nat)(h1:Tryz.prog.underlying t=some (.slice e))(h2:(Tryz.prog.info? e).map (fun i=>(i.zero,i.size,i.bytes))=some (some z,1,bytes))(hz:z.cells=#[z])
 (n:Nat)(L C:Int)(hl:a.eval l=.int .i64 L)(hc:a.eval c=.int .i64 C)(hL:L=n)(hC:C=n)(hb:bytes*n≤281474976710656)(hn:n≤1000000000000000)
 (hK:∀w',bK w' w.heap.size (List.replicate n z) e→Ext w w'→w'.heap.size=w.heap.size+1→K (a.put o.dst (.slice (some ⟨w.heap.size,0,none⟩) n n)) w'):
 if Region.wanted o (yielded ops a.tmps)=true then Oper.wp Tryz.prog o a w K Q else E:=by
 have hw:Region.wanted o (yielded ops a.tmps)=true:=by simp[Region.wanted,hg]
 rw[if_pos hw];obtain⟨i,hi,hz0,hz1,hz2⟩:=info_parts h2;subst hL;subst hC;have hrun:=run_make (P:=Tryz.prog) w t e i z h1 hi hz0 .i64 .i64 (n:Int) (n:Int) af (Int.le_refl _) (by rw[hz2];omega) af;rw[Int.toNat_natCast,hz1,Nat.mul_one,hz]at hrun;have hm:madeCells #[z] n=(List.replicate n z).toArray:=by
  apply Array.ext';rw[toList_madeCells_one]
 rw[hm]at hrun;unfold Oper.wp;simp[execOp,hop,hl,hc,hrun,Result.andThen];exact hK _ (bK.bO _ _ _) (ax.alloc _) aj
theorem bK.aiZ {w:World}{b c:Nat}{z:Value}{e:TypeId}(h:bK w b (List.replicate c z) e)(hc:c≤maxLen):Own w 1 (.slice (some ⟨b,0,none⟩) c c) c (List.replicate c z):=
 ⟨aj,.inr ⟨b,c,rfl,aK _,hc,h.lt,fun j _=>h.cell j,fun j hj=>⟨by rw[h.cell,List.getElem?_replicate,if_pos af];rfl,h.free j⟩⟩⟩
end Go.Proofs.YthicgffppmbamaaGreat
