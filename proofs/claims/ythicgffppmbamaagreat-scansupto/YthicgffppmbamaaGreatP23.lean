import Derived.Test.YthicgffppmbamaaGreatP22
set_option maxRecDepth 100000
set_option maxHeartbeats 16000000
namespace Go.Proofs.YthicgffppmbamaaGreat
open Go.RowKit
def oq (t:List (List Int)):Bool:=t.all (fun l=>decide (0<l.length))
def oO (there:List (List (List Int)))(k:Nat):Bool:=(there.take k).all oq
def sumTo (rows:List Nat)(k:Nat):Nat:=(rows.take k).sum
def oW (rows:List Nat)(there:List (List (List Int))):Nat→Nat
 |0=>0
 |k+1=>if oO there (k+1)=true then sumTo rows (k+1)else oW rows there k
theorem vP (rows:List Nat)(k:Nat)(h:k<rows.length):sumTo rows (k+1)=sumTo rows k+rows[k]:=by
 unfold sumTo;rw[aF h,List.sum_append];simp
theorem sumTo_le (rows:List Nat):∀k j,k≤j→sumTo rows k≤sumTo rows j:=fun k j h=>by
 unfold sumTo;have:rows.take k=(rows.take j).take k:=by rw[List.take_take,Nat.min_eq_left h]
 rw[this];have e:=List.take_append_drop k (rows.take j);have:=congrArg List.sum e;rw[List.sum_append]at this;omega
theorem Cn (rows:List Nat):sumTo rows rows.length=rows.sum:=by unfold sumTo;rw[aX]
theorem aaF (there:List (List (List Int))){k j:Nat}(h:k≤j)(ho:oO there j=true):oO there k=true:=by
 unfold oO at*;rw[List.all_eq_true]at*;intro x hx;refine ho x ?_;have:there.take k=(there.take j).take k:=by rw[List.take_take,Nat.min_eq_left h]
 rw[this]at hx;exact List.mem_of_mem_take hx
theorem JM (there:List (List (List Int)))(k:Nat)(h:k<there.length):oO there (k+1)=(oO there k&&oq there[k]):=by
 unfold oO;rw[aF h,List.all_append];simp
theorem Co :∀(rs:List Nat)(ts:List (List (List Int)))(n:Nat)(t:List (List Int)),rs.length=ts.length→Pl.gQ (rs++[n]) (ts++[t])=if(ts++[t]).all oq=true then(rs++[n]).sum else Pl.gQ rs ts
 |[],[],n,t,_=>by
  show Pl.gQ [n] [t]=_;unfold Pl.gQ;simp[oq,Pl.gQ]
 |[],_::_,_,_,h=>by simp at h
 |_::_,[],_,_,h=>by simp at h
 |a::rs,b::ts,n,t,h=>by
  have ih:=Co rs ts n t (by simpa using h);show Pl.gQ (a::(rs++[n])) (b::(ts++[t]))=_;unfold Pl.gQ;rw[ih];by_cases hb:b.all (fun l=>decide (0<l.length))=true
  ·rw[if_pos hb,if_pos hb];have:(b::ts++[t]).all oq=(ts++[t]).all oq:=by
    show(oq b&&_)=_;rw[show oq b=true from hb,Bool.true_and];rfl
   rw[this];split
   ·simp only[List.cons_append,List.sum_cons]
   ·rfl
  ·rw[if_neg hb,if_neg hb];have:(b::ts++[t]).all oq=false:=by
    show(oq b&&_)=_;rw[show oq b=false from by simpa[oq]using hb,Bool.false_and]
   rw[this];simp
theorem Nq (rows:List Nat)(there:List (List (List Int)))(hl:there.length=rows.length):∀k,k≤rows.length→oW rows there k=Pl.gQ (rows.take k) (there.take k)
 |0,_=>by simp[oW,Pl.gQ]
 |k+1,h=>by
  rw[aF (show k<rows.length from af),aF (show k<there.length from af),Co _ _ _ _ (by simp;omega),←Nq rows there hl k af];have e:oW rows there (k+1)=if oO there (k+1)=true then sumTo rows (k+1)else oW rows there k:=rfl;rw[e];unfold oO sumTo;rw[aF (show k<rows.length from af),aF (show k<there.length from af)]
theorem Cq (rows:List Nat)(there:List (List (List Int)))(hl:there.length=rows.length):oW rows there rows.length=Pl.gQ rows there:=by
 rw[Nq rows there hl _ (aK _),aX,←hl,aX]
theorem Nr (rows:List Nat)(there:List (List (List Int))):∀k,oW rows there k≤sumTo rows k
 |0=>aM _
 |k+1=>by
  unfold oW;split
  ·exact aK _
  ·exact aO (Nr rows there k) (sumTo_le rows _ _ af)
theorem GI (rows:List Nat)(there:List (List (List Int)))(g:Nat):∀K,sumTo rows g<oW rows there K→oO there (g+1)=true
 |0,h=>by simp[oW]at h
 |K+1,h=>by
  unfold oW at h;split at h
  ·rename_i ho;refine aaF there ?_ ho;refine Classical.byContradiction fun e=>?_
   have:=sumTo_le rows (K+1) g af;omega
  ·exact GI rows there g K h
def Db (there:List (List (List Int)))(g i k:Nat):Int:=((there.getD g []).getD i []).getD k 0
def kC (rows:List Nat)(there:List (List (List Int)))(g k i:Nat):List Int:=((List.range g).flatMap fun g=>(List.range (rows.getD g 0)).map fun k=>Db there g i k)++(List.range k).map fun k=>Db there g i k
theorem Al (rows:List Nat)(there:List (List (List Int)))(g k i:Nat):kC rows there g (k+1) i=kC rows there g k i++[Db there g i k]:=by
 unfold kC;rw[List.range_succ,a_,aW];rfl
theorem GJ (rows:List Nat)(there:List (List (List Int)))(g i:Nat)(h:g<rows.length):kC rows there g rows[g] i=kC rows there (g+1) 0 i:=by
 unfold kC;rw[List.range_succ,List.flatMap_append];simp[ay h]
theorem yC (rows:List Nat)(there:List (List (List Int)))(i:Nat):∀g k,g≤rows.length→(kC rows there g k i).length=sumTo rows g+k
 |0,k,_=>by simp[kC,sumTo]
 |g+1,0,h=>by
  rw[←GJ rows there g i af,yC rows there i g _ af,vP rows g af];omega
 |g+1,k+1,h=>by
  rw[Al,aD,yC rows there i (g+1) k h];simp;omega
theorem Ve (rows:List Nat)(there:List (List (List Int)))(i:Nat):kC rows there rows.length 0 i=Pl.yR rows there i:=by
 unfold kC Pl.yR;simp[Db]
def j6 (next n:Nat)(l:List Int):List Int:=(l.drop next).take n
theorem adV (next n:Nat)(l:List Int)(x:Int)(h1:next≤l.length)(h2:l.length<next+n):j6 next n (l++[x])=j6 next n l++[x]:=by
 unfold j6;rw[List.drop_append_of_le_length h1,List.take_of_length_le (by simp;omega),List.take_of_length_le (by simp;omega)]
theorem aaG (next n:Nat)(l:List Int)(x:Int)(h1:l.length<next):j6 next n (l++[x])=j6 next n l:=by
 unfold j6;rw[List.drop_of_length_le (by simp;omega),List.drop_of_length_le af]
theorem Yh (next n:Nat)(l:List Int)(x:Int)(h2:next+n≤l.length):j6 next n (l++[x])=j6 next n l:=by
 unfold j6;rw[List.drop_append_of_le_length af,List.take_append_of_le_length (by simp;omega)]
def outs (rows:List Nat)(there:List (List (List Int)))(next n W g k:Nat):List (List Int):=(List.range W).map fun i=>j6 next n (kC rows there g k i)
def tV (rows:List Nat)(there:List (List (List Int)))(next n W g k j:Nat):List (List Int):=(List.range W).map fun i=>if i<j then j6 next n (kC rows there g (k+1) i)else j6 next n (kC rows there g k i)
theorem JN (rows:List Nat)(there:List (List (List Int)))(next n W g k:Nat):tV rows there next n W g k 0=outs rows there next n W g k:=by
 unfold tV outs;simp
theorem Yi (rows:List Nat)(there:List (List (List Int)))(next n W g k:Nat):tV rows there next n W g k W=outs rows there next n W g (k+1):=by
 unfold tV outs;refine List.map_congr_left (fun i hi=>?_);rw[if_pos (List.mem_range.1 hi)]
theorem Am (rows:List Nat)(there:List (List (List Int)))(next n W g k j:Nat):(tV rows there next n W g k j).length=W:=by simp[tV]
theorem Yj (rows:List Nat)(there:List (List (List Int)))(next n W g k:Nat):(outs rows there next n W g k).length=W:=by simp[outs]
theorem aaH (rows:List Nat)(there:List (List (List Int)))(next n W g k j:Nat)(h:j<W):(tV rows there next n W g k j)[j]?=some (j6 next n (kC rows there g k j)):=by
 unfold tV;rw[aN,List.getElem?_range h];simp
theorem Yk (rows:List Nat)(there:List (List (List Int)))(next n W g k j:Nat)(h:j<W):(tV rows there next n W g k j).set j (j6 next n (kC rows there g (k+1) j))=tV rows there next n W g k (j+1):=by
 apply List.ext_getElem?;intro i;by_cases hi:i<W
 ·by_cases hij:j=i
  ·subst hij;rw[List.getElem?_set_self (by rw[Am];exact h)];unfold tV;rw[aN,List.getElem?_range h];simp
  ·rw[List.getElem?_set_ne hij];unfold tV;rw[aN,aN,List.getElem?_range hi];simp only[Option.map_some]
   congr 1
   by_cases h1:i<j
   ·rw[if_pos h1,if_pos af]
   ·rw[if_neg h1,if_neg af]
 ·rw[bn (by rw[List.length_set,Am];omega),bn (by rw[Am];omega)]
theorem Vf (rows:List Nat)(there:List (List (List Int)))(next n W g k:Nat)(hg:g≤rows.length)(h:sumTo rows g+k<next∨next+n≤sumTo rows g+k):outs rows there next n W g (k+1)=outs rows there next n W g k:=by
 unfold outs;refine List.map_congr_left (fun i _=>?_);rw[Al];have:=yC rows there i g k hg;rcases h with h|h
 ·exact aaG _ _ _ _ af
 ·exact Yh _ _ _ _ af
theorem Vg (rows:List Nat)(there:List (List (List Int)))(next n W g:Nat)(h:g<rows.length):outs rows there next n W g rows[g]=outs rows there next n W (g+1) 0:=by
 unfold outs;refine List.map_congr_left (fun i _=>?_);rw[GJ rows there g i h]
theorem Vh (rows:List Nat)(there:List (List (List Int)))(next n W:Nat):outs rows there next n W 0 0=List.replicate W []:=by
 unfold outs j6 kC;simp;rw[List.map_const'];simp
structure Sb (r:Pl.cO):Prop where
 len:r.there.length=r.rows.length
 Ai:∀(g:Nat)t,r.there[g]?=some t→t.length=r.want.length
 lens:∀(g:Nat)t l,r.there[g]?=some t→l∈t→l=[]∨r.rows[g]?=some l.length
 few:r.rows.length≤6
 rws:∀n∈r.rows,n≤20
 nr:r.dh≤20
 next:r.next≤r.rows.sum
 want:r.rows≠[]→r.want.length≤4
inductive Ao (col:bU)(w w':World)(e:Ending)(Y:Nat)(r:Pl.cO)(o:Option (List (List Int)))(bJ:List Value)(nv pv rv tv:Value):Prop
 |mk (he:(o=none∧e=.returned (.slice none 0 0))∨∃ls Lb vs,o=some ls∧e=.returned (.slice (some ⟨Lb,0,none⟩) ls.length ls.length)∧iM (fun g=>w.heap.size≤g) w' Lb vs ls) (hr:dK col w' Y r bJ nv pv rv tv) (hk:Kp (Mine col) w w'):Ao col w w' e Y r o bJ nv pv rv tv
theorem dK.Vi {col:bU}{w:World}{Y:Nat}{r:Pl.cO}{bJ:List Value}{nv pv rv tv:Value}(h:dK col w Y r bJ nv pv rv tv)(hn:0<r.there.length):
 ∃gb go tc,tv=.slice (some ⟨gb,go,none⟩) r.there.length tc∧∀(g:Nat)t,r.there[g]?=some t→∃la lc,w.cell? ⟨gb,go+g,none⟩=some (.slice la t.length lc)∧(0<t.length→∃lb lo,la=some ⟨lb,lo,none⟩∧∀(i:Nat)l,t[i]?=some l→∃ua uc,w.cell? ⟨lb,lo+i,none⟩=some (.slice ua l.length uc)∧(l=[]→ua=none∧uc=0)∧(0<l.length→∃ub uo,ua=some ⟨ub,uo,none⟩∧∀k(hk:k<l.length),w.cell? ⟨ub,uo+k,none⟩=some (.int .i64 l[k]))):=by
 obtain⟨eG,hlv,hrow,hlist⟩:=h.inn.there;obtain⟨-,ga,tc,rfl,-,h3⟩:=hrow;obtain⟨gb,go,rfl,-,-,hgc,-⟩:=h3 hn;refine⟨gb,go,tc,rfl,fun g t hg=>?_⟩;have hgl:=(aL.1 hg).1;obtain⟨vs,hvl,mR,hvs⟩:=hlist g _ t (ay af) hg;have e1:=hgc g af;rw[ay af]at e1;obtain⟨-,la,lc,he,-,h4⟩:=mR;rw[he]at e1;refine⟨la,lc,e1,fun hp=>?_⟩;obtain⟨lb,lo,rfl,-,-,hlc,-⟩:=h4 hp;refine⟨lb,lo,rfl,fun i l hi=>?_⟩;have hil:=(aL.1 hi).1;obtain⟨hr,hnil⟩:=hvs i _ l (ay af) hi;have e2:=hlc i af;rw[ay af]at e2;obtain⟨-,ua,uc,hue,-,h5⟩:=hr;rw[hue]at e2;refine⟨ua,uc,e2,fun e=>?_,fun hlp=>?_⟩
 ·have:=hnil e;rw[hue]at this;simp only[Value.slice.injEq]at this;exact⟨this.1,this.2.2⟩
 ·obtain⟨ub,uo,rfl,-,-,huc,-⟩:=h5 hlp;exact⟨ub,uo,rfl,fun k hk=>(huc k af).trans (by rw[aN,ay hk];rfl)⟩
theorem Vj (col:bU)(w:World)(Y:Nat)(r:Pl.cO)(bJ:List Value)(nv pv rv tv:Value)(h:dK col w Y r bJ nv pv rv tv)(hok:r.state=0→Sb r):
 Calls Tryz.prog 39 #[PtrTo Y 0] w fun e w'=>Ao col w w' e Y (Pl.iE r).1 (Pl.iE r).2 bJ nv pv rv tv:=by
 have c6:=h.blk.cell 6;simp only[dm,I,au]at c6;by_cases hst:r.state=0
 ·have hk:=hok hst;have b0:((r.state:Int)==0)=true:=by simp[hst]
  obtain⟨ra,rc,rfl,hrc,hr3⟩:=h.inn.rows.get;have HR3:=hide hr3;clear hr3;have c11:=h.blk.cell 11;have c12:=h.blk.cell 12;have c4:=h.blk.cell 4;have c13:=h.blk.cell 13;obtain⟨ta,tc,rfl⟩:∃ta tc,tv=.slice ta r.rows.length tc:=by
   obtain⟨eG,hlv,hrow,-⟩:=h.inn.there;obtain⟨ta,tc,e,-,-⟩:=hrow.get;exact⟨ta,tc,by rw[←hk.len];exact e⟩
  simp only[dm,I,au]at c11 c12 c4 c13;have ME:=hk.few;have hlen:=hk.len;have afk:∀k,k≤r.rows.length→sumTo r.rows k≤k*20:=fun k=>by
   induction k with
   |zero=>intro _;exact aM _
   |succ k ih=>
    intro hkl;rw[vP r.rows k af];have:=ih af;have:=hk.rws r.rows[k] (aJ _);omega
  have MS:=hide afk;have hshort:r.rows.length=0∨0<r.rows.length:=af;go_enter Tryz.func39,Tryz.ntmps39
  go_wp2_with fail
  go_loop [3,4,5,6] (fun t rd op gi=>∃k:Nat,k≤r.rows.length∧gi=.int .i64 k∧t=.int .i64 (sumTo r.rows k)∧rd=.int .i64 (oW r.rows r.there k)∧op=.bool (oO r.there k)) (fun _ _ _ gi=>r.rows.length-(intOf gi).toNat)
  case atStart=>exact⟨0,aM _,rfl,rfl,rfl,rfl⟩
  case round=>
   obtain⟨k,hkl,rfl,rfl,rfl,rfl⟩:=hrel;by_cases Sd:k<r.rows.length
   ·have k1:(k:Int)<(r.rows.length:Int):=af;have k0:(0:Int)≤(k:Int):=af;obtain⟨rb,ro,rfl,-,Ns⟩:=HR3.out af;have f1:w.cell? ⟨rb,ro+k,none⟩=some (.int .i64 (r.rows[k]:Int)):=(Ns k af).trans (by rw[aN,ay Sd];rfl);clear Ns;have hs1:=MS.out k hkl;have hr1:=hk.rws r.rows[k] (aJ _);have HS:=hide (vP r.rows k Sd);have hop:=JM r.there k af;obtain⟨gb,go,Md,he,hla⟩:=h.Vi af;rw[hlen]at he;cases he;obtain⟨la,lc,f2,hlb⟩:=hla k r.there[k] (ay af);have htl:=hk.Ai k r.there[k] (ay af);obtain⟨t,hte⟩:∃t,t=r.there[k]'af:=⟨_,rfl⟩
    rw[←hte]at f2 hlb htl hop;have Zz:t.length≤4:=by rw[htl];exact hk.want (fun e=>by rw[e]at Sd;simp at Sd)
    clear hte hla htl;obtain⟨rk,m_⟩:∃rk,rk=r.rows[k]:=⟨_,rfl⟩
    rw[←m_]at f1 hr1 HS;have HOP:=hide hop;clear m_ hop
    go_wp2_with fail
    go_loop [5,7] (fun op ii=>∃i:Nat,i≤t.length∧ii=.int .i64 i∧op=.bool (oO r.there k&&oq (t.take i))) (fun _ ii=>t.length-(intOf ii).toNat)
    case atStart=>exact⟨0,aM _,rfl,by simp[oq]⟩
    case round=>
     obtain⟨i,hi,rfl,rfl⟩:=hrel;by_cases hil:i<t.length
     ·have i1:(i:Int)<(t.length:Int):=af;have i0:(0:Int)≤(i:Int):=af;have zn:Hid (oq (t.take (i+1))=(oq (t.take i)&&decide (0<(t[i]).length))):=by
       show _=_;unfold oq;rw[aF hil,List.all_append];simp
      obtain⟨lb,lo,rfl,Ja⟩:=hlb af;obtain⟨ua,uc,f3,hnil,hsome⟩:=Ja i t[i] (ay hil);obtain⟨l,hle⟩:∃l,l=t[i]:=⟨_,rfl⟩
      rw[←hle]at f3 hnil hsome zn;clear hle Ja;have hq1:=PY 46 3 Tryz.underlying46;have hq2:=MB 46 3 Tryz.underlying46;cases qi:(oO r.there k&&oq (t.take i))with
      |false=>
       go_wp2_with fail
       exact⟨⟨i+1,af,by go_num,by rw[zn.out,←Bool.and_assoc,qi];rfl⟩,by simp[intOf];omega⟩
      |true=>
       by_cases hl0:l=[]
       ·obtain⟨rfl,rfl⟩:=hnil hl0;subst hl0;simp only[List.length_nil]at f3
        go_wp2_with fail
        exact⟨⟨i+1,af,by go_num,by rw[zn.out,←Bool.and_assoc,qi];rfl⟩,by simp[intOf];omega⟩
       ·have hlp:0<l.length:=List.length_pos_iff.2 hl0;obtain⟨ub,uo,rfl,-⟩:=hsome hlp
        go_wp2_with fail
        exact⟨⟨i+1,af,by go_num,by rw[zn.out,←Bool.and_assoc,qi,aH hlp];rfl⟩,by simp[intOf];omega⟩
     ·obtain rfl:i=t.length:=af;have i1:¬(t.length:Int)<(t.length:Int):=af;have YX:Hid ((oO r.there k&&oq (t.take t.length))=oO r.there (k+1)):=by show _=_;rw[HOP.out,aX]
      have Vb:Hid (oW r.rows r.there (k+1)=if oO r.there (k+1)=true then sumTo r.rows (k+1)else oW r.rows r.there k):=by show _=_;rfl
      rw[YX.out];cases qi:oO r.there (k+1)with
      |false=>
       go_wp2_with fail
       exact⟨⟨k+1,af,by go_num,by rw[HS.out];go_num,by rw[Vb.out,qi];rfl,by rw[qi]⟩,by simp[intOf];omega⟩
      |true=>
       go_wp2_with fail
       exact⟨⟨k+1,af,by go_num,by rw[HS.out];go_num,by rw[Vb.out,qi,if_pos rfl,HS.out];go_num,by rw[qi]⟩,by simp[intOf];omega⟩
   ·obtain rfl:k=r.rows.length:=af;have k1:¬(r.rows.length:Int)<(r.rows.length:Int):=af;rw[Cn,Cq r.rows r.there hlen];have hsum:r.rows.sum≤120:=by have:=MS.out r.rows.length (aK _);rw[Cn]at this;omega
    have hnx:=hk.next;have hnr:=hk.nr;obtain⟨nn,hnn⟩:∃nn,nn=Pl.nD r:=⟨_,rfl⟩
    have adX:nn=min r.dh (r.rows.sum-r.next):=hnn;have hs1:IntKind.i64.wrap ((r.rows.sum:Int)-(r.next:Int))=(r.rows.sum:Int)-(r.next:Int):=by simp[IntKind.wrap,IntKind.bits,IntKind.signed];omega
    have hmin:∀u:World,(Builtin.min_ #[3,3] 3 #[.int .i64 (r.dh:Int),.int .i64 ((r.rows.sum:Int)-(r.next:Int))]).run Tryz.prog u=.ok (.int .i64 (nn:Int)) u:=fun u=>by
     have e:(if(r.rows.sum:Int)-(r.next:Int)<(r.dh:Int)then(r.rows.sum:Int)-(r.next:Int)else(r.dh:Int))=(nn:Int):=by rw[adX];split<;>omega
     rw[←e];rfl
    have hnb:nn≤20:=af;have HNN:=hide hnn;have Aw:Hid (nn≤r.rows.sum-r.next):=by show _≤_;omega
    clear hnn adX;have anv:Pl.gQ r.rows r.there≤120:=by
     have:=Nr r.rows r.there r.rows.length;rw[Cq r.rows r.there hlen,Cn]at this;omega
    go_upto_region 16 with fail
    go_quiet (fail);generalize hW1:World.drewN _ _=W1;have x1:Ext w W1:=by rw[←hW1];exact ax.drewN _
    clear hW1;have h1:=h.ext x1;have QZ:=x1.cell c13 id;by_cases hret:nn<1∨Pl.gQ r.rows r.there<r.next+nn
    ·have HE:Hid (Pl.iE r=(r,none)):=by
      show _=_;unfold Pl.iE;rw[if_pos hst,←HNN.out,if_pos hret]
     by_cases q1:nn<1
     ·have e1:decide ((nn:Int)<1)=true:=aH af
      go_wp2_with fail
      go_ret;rw[HE.out];exact Ao.mk (.inl ⟨rfl,rfl⟩) h1 (Kp.cZ x1)
     ·have e1:decide ((nn:Int)<1)=false:=aG af;have e2:decide ((Pl.gQ r.rows r.there:Int)<(r.next:Int)+(nn:Int))=true:=aH af
      go_wp2_with fail
      go_ret;rw[HE.out];exact Ao.mk (.inl ⟨rfl,rfl⟩) h1 (Kp.cZ x1)
    ·have e1:decide ((nn:Int)<1)=false:=aG af;have e2:decide ((Pl.gQ r.rows r.there:Int)<(r.next:Int)+(nn:Int))=false:=aG af;have hne:r.rows≠[]:=fun e=>by rw[e]at hsum hnx;have:=Aw.out;rw[e]at this;simp at this hnx;omega
     have hw4:=hk.want hne;have c1w:=h.blk.cell 1;obtain⟨wa,wc,rfl,hwc,-⟩:=h1.inn.names.get;simp only[dm,I,au]at c1w;have c1:=x1.cell c1w id
     go_wp2_with (at_make;go_must (refine gT _ rfl _ _ 51 rfl 46 _ 24 Tryz.underlying51 zo rfl r.want.length _ _ rfl rfl rfl rfl af af ?_);intro W2 hb2 x2 z2;clear z2)
     have I9:Ext w W2:=x1.trans x2;have hN0:=iM.nil (C:=fun g=>w.heap.size≤g) hb2 x1.size;rw[←Vh r.rows r.there r.next nn r.want.length]at hN0;obtain⟨gb,go,Md,he,hla⟩:=h.Vi (by rw[hlen];exact List.length_pos_iff.2 hne);rw[hlen]at he;cases he;have Y2:=hide hla;clear hla QZ hb2;go_loopw [10,11] (fun at_ gi wq=>∃(g:Nat)(vs:List Value),g≤r.rows.length∧gi=.int .i64 g∧at_=.int .i64 (sumTo r.rows g)∧iM (fun g=>w.heap.size≤g) wq W1.heap.size vs (outs r.rows r.there r.next nn r.want.length g 0)∧Ext w wq) (fun _ gi _=>r.rows.length-(intOf gi).toNat)
     case atStart=>exact⟨0,_,aM _,rfl,rfl,hN0,I9⟩
     case round=>
      obtain⟨g,vs,hgl,rfl,rfl,hNg,xg⟩:=hrel;have d11:=xg.cell c11 id;by_cases oh:g<r.rows.length
      ·have g1:(g:Int)<(r.rows.length:Int):=af;have g0:(0:Int)≤(g:Int):=af;obtain⟨rb,ro,rfl,-,Ns⟩:=HR3.out af;have f1w:w.cell? ⟨rb,ro+g,none⟩=some (.int .i64 (r.rows[g]:Int)):=(Ns g af).trans (by rw[aN,ay oh];rfl);clear Ns;have hs2:=MS.out g hgl;have hr1:=hk.rws r.rows[g] (aJ _);have HS:=hide (vP r.rows g oh);have HON:=hide (Vg r.rows r.there r.next nn r.want.length g oh);have Gc:Hid (r.rows[g]?=some r.rows[g]):=ay oh;obtain⟨rk,m_⟩:∃rk,rk=r.rows[g]:=⟨_,rfl⟩
       rw[←m_]at f1w hr1 HS HON Gc;clear m_;have HF1:=hide f1w;clear f1w
       go_wp2_with fail
       go_loopw [10,12] (fun at_ ri wq=>∃(k:Nat)(vs:List Value),k≤rk∧ri=.int .i64 k∧at_=.int .i64 ((sumTo r.rows g+k:Nat):Int)∧iM (fun g=>w.heap.size≤g) wq W1.heap.size vs (outs r.rows r.there r.next nn r.want.length g k)∧Ext w wq) (fun _ ri _=>rk-(intOf ri).toNat)
       case atStart=>exact⟨0,vs,aM _,rfl,rfl,hNg,xg⟩
       case round=>
        clear d11 hNg xg vs;obtain⟨k,vs,hkl,rfl,rfl,Vk,xk⟩:=hrel;have d11:=xk.cell c11 id;have f1:=xk.cell HF1.out id;by_cases hkr:k<rk
        ·have k1:(k:Int)<(rk:Int):=af;have k0:(0:Int)≤(k:Int):=af;rw[←JN]at Vk;obtain⟨at_,hat⟩:∃a,a=sumTo r.rows g+k:=⟨_,rfl⟩
         have hab:at_≤200:=af;rw[←hat];have HAT:=hide hat;clear hat
         go_wp2_with fail
         go_loopw [13] (fun ii wq=>∃(i:Nat)(vs:List Value),i≤r.want.length∧ii=.int .i64 i∧iM (fun g=>w.heap.size≤g) wq W1.heap.size vs (tV r.rows r.there r.next nn r.want.length g k i)∧Ext w wq∧Hid (i=0∨(r.next≤at_∧at_<r.next+nn))) (fun ii _=>r.want.length-(intOf ii).toNat)
         case atStart=>exact⟨0,vs,aM _,rfl,Vk,xk,.inl rfl⟩
         case round=>
          clear d11 f1 Vk xk vs;obtain⟨i,vs,hil,rfl,AX,xi,HI⟩:=hrel;have d1:=xi.cell c1w id;have d13:=xi.cell c13 id;by_cases hwin:r.next≤at_∧at_<r.next+nn
          ·have m1:decide ((r.next:Int)≤(at_:Int))=true:=aH af;have m2:decide ((at_:Int)<(r.next:Int)+(nn:Int))=true:=aH af;by_cases hiw:i<r.want.length
           ·have i1:(i:Int)<(r.want.length:Int):=af;have i0:(0:Int)≤(i:Int):=af;have i3:decide ((i:Int)<(r.want.length:Int))=true:=aH i1;obtain⟨t,Qe⟩:∃t,r.there[g]?=some t:=⟨_,ay af⟩
            obtain⟨la,lc,y1,hlb⟩:=Y2.out g t Qe;have htl:=hk.Ai g t Qe;obtain⟨lb,lo,rfl,Ja⟩:=hlb af;obtain⟨l,DC⟩:∃l,t[i]?=some l:=⟨_,ay af⟩
            obtain⟨ua,uc,y2,-,hsome⟩:=Ja i l DC;have Ci:oO r.there (g+1)=true:=GI r.rows r.there g r.rows.length (by rw[Cq r.rows r.there hlen];have:=HAT.out;omega);have hgt:g<r.there.length:=(aL.1 Qe).1;have hte:r.there[g]=t:=(aL.1 Qe).2;have hlp:0<l.length:=by
             rw[JM r.there g hgt,hte]at Ci;simp only[Bool.and_eq_true]at Ci;have:=List.all_eq_true.1 Ci.2 l (List.mem_of_getElem? DC);simpa using this
            have hll:l.length=rk:=by
             rcases hk.lens g t l Qe (List.mem_of_getElem? DC)with e|e
             ·rw[e]at hlp;simp at hlp
             ·rw[Gc.out]at e;exact(Option.some.inj e).symm
            obtain⟨ub,uo,rfl,huk⟩:=hsome hlp;have y3:=huk k af;have JO:Hid (Db r.there g i k=l[k]'af):=by
             show _=_;unfold Db;simp only[aC,Qe,DC,Option.getD_some];rw[ay af];rfl
            obtain⟨x,hx⟩:∃x,x=l[k]'af:=⟨_,rfl⟩
            rw[←hx]at y3 JO;rw[hll]at y2;rw[htl]at y1;have HSS:Hid (∀u,Ext w u→u.cell? ⟨Y,12,none⟩=some (.slice (some ⟨gb,go,none⟩) r.rows.length tc)∧u.cell? ⟨gb,go+g,none⟩=some (.slice (some ⟨lb,lo,none⟩) r.want.length lc)∧u.cell? ⟨lb,lo+i,none⟩=some (.slice (some ⟨ub,uo,none⟩) rk uc)∧u.cell? ⟨ub,uo+k,none⟩=some (.int .i64 x)):=fun u hu=>⟨hu.cell c12 id,hu.cell y1 id,hu.cell y2 id,hu.cell y3 id⟩
            have HWI:Hid (j6 r.next nn (kC r.rows r.there g (k+1) i)=j6 r.next nn (kC r.rows r.there g k i)++[x]):=by
             show _=_;rw[Al,JO.out];have:=yC r.rows r.there i g k hgl;have:=HAT.out;exact adV _ _ _ _ af af
            clear hx y1 y2 y3 huk hsome Ja hlb Ci hte;have hvl:i<vs.length:=by rw[AX.len,Am];exact hiw
            obtain⟨v,hv⟩:∃v,vs[i]?=some v:=⟨_,ay hvl⟩
            have GK:=AX.own i v _ hv (aaH r.rows r.there r.next nn r.want.length g k i hiw);obtain⟨va,vc,rfl,-⟩:=GK.shape;have hvB:∀b,vs[i]?=some (.slice va (j6 r.next nn (kC r.rows r.there g k i)).length vc)→(Value.slice va (j6 r.next nn (kC r.rows r.there g k i)).length vc).ownBlock=some b→w.heap.size≤b∧b≠W1.heap.size:=fun b=>AX.si i _ b
            have z0:=(AX.blk.cell i).trans hv;have hwl:(j6 r.next nn (kC r.rows r.there g k i)).length≤20:=by unfold j6;simp;omega
            obtain⟨wl,ad2⟩:∃l,l=j6 r.next nn (kC r.rows r.there g k i):=⟨_,rfl⟩
            rw[←ad2]at HWI GK z0 hv hwl hvB;clear ad2;obtain⟨z1,z2,z3,z4⟩:=HSS.out _ xi;have rk1:(k:Int)<(rk:Int):=af
            go_upto_region 30 with fail
            have hS0:wr.drew.cell? ⟨Y,12,none⟩=some (.slice (some ⟨gb,go,none⟩) r.rows.length tc)∧wr.drew.cell? ⟨gb,go+g,none⟩=some (.slice (some ⟨lb,lo,none⟩) r.want.length lc)∧wr.drew.cell? ⟨lb,lo+i,none⟩=some (.slice (some ⟨ub,uo,none⟩) rk uc)∧wr.drew.cell? ⟨ub,uo+k,none⟩=some (.int .i64 x)∧wr.drew.cell? ⟨W1.heap.size,i,none⟩=some (.slice va wl.length vc):=⟨z1,z2,z3,z4,z0⟩
            refine bZ (n:=22) (fun u=>u.cell? ⟨Y,12,none⟩=some (.slice (some ⟨gb,go,none⟩) r.rows.length tc)∧u.cell? ⟨gb,go+g,none⟩=some (.slice (some ⟨lb,lo,none⟩) r.want.length lc)∧u.cell? ⟨lb,lo+i,none⟩=some (.slice (some ⟨ub,uo,none⟩) rk uc)∧u.cell? ⟨ub,uo+k,none⟩=some (.int .i64 x)∧u.cell? ⟨W1.heap.size,i,none⟩=some (.slice va wl.length vc)) (by kernel_rfl) ?_;generalize hWd:wr.drew=Wd at hS0⊢;have xd:Ext wr Wd:=by rw[←hWd];exact ax.drew
            clear hWd;refine Late.t 0 [22] rfl hS0 ?_;refine Late.t 1 [22] rfl hS0 ?_;refine Late.t 2 [22] rfl hS0 ?_;refine Late.t 3 [22] rfl hS0 ?_;refine Late.t 4 [22] rfl hS0 ?_;refine Late.t 5 [22] rfl hS0 ?_;refine Late.t 6 [22] rfl hS0 ?_;refine Late.t 7 [22] rfl hS0 ?_;refine Late.t 8 [22] rfl hS0 ?_;refine Late.t 9 [22] rfl hS0 ?_;refine Late.t 10 [22] rfl hS0 ?_;refine Late.t 11 [22] rfl hS0 ?_;refine Late.t 12 [22] rfl hS0 ?_;refine Late.t 13 [22] rfl hS0 ?_;refine Late.t 14 [22] rfl hS0 ?_;refine Late.t 15 [22] rfl hS0 ?_;refine Late.t 16 [22] rfl hS0 ?_;refine Late.t 17 [22] rfl hS0 ?_;refine Late.t 18 [22] rfl hS0 ?_;have xa:Ext Wd (Wd.alloc (.cells #[.int .i64 x] 3)):=ax.alloc _;refine Late.o 19 rfl (fun K hK=>?_);go_simp;refine hK _ _ (fun _=>⟨xa.cell hS0.1 id,xa.cell hS0.2.1 id,xa.cell hS0.2.2.1 id,xa.cell hS0.2.2.2.1 id,xa.cell hS0.2.2.2.2 id⟩) ?_;clear hK K;try simp only[lX]
            refine Late.o 20 rfl (fun K hK=>?_);refine d_ rfl _ _ 46 46 rfl 3 (.int .i64 0) 1 8 Tryz.underlying46 nZ rfl _ _ _ (by rfl) ((GK.ext xd).ext xa) _ (by rfl) 1 _ (dO _ _ rfl _ _ Tryz.underlying46 _ [.int .i64 x] rfl (by intro u hu;simp at hu;subst hu;rfl)) af af ?_;intro v8 W8 o8 k8 s8;obtain⟨wQ,wR,rfl,-⟩:=o8.shape;have x8:Ext w W8:=((xi.trans xd).trans xa).then k8 (fun b hb e=>by have:=(hvB b hv e).1;omega);obtain⟨q1,q2,q3,q4⟩:=HSS.out _ x8;have nL:¬Of (.slice va wl.length vc) W1.heap.size:=fun e=>(hvB _ hv e).2 rfl
            have bL:=(AX.blk.kept (xd.trans xa) id).kept k8 nL;have q5:=(bL.cell i).trans hv;have q6:=bL.free i;have nI:W8.cell? ⟨Y,12,none⟩=some (.slice (some ⟨gb,go,none⟩) r.rows.length tc)∧W8.cell? ⟨gb,go+g,none⟩=some (.slice (some ⟨lb,lo,none⟩) r.want.length lc)∧W8.cell? ⟨lb,lo+i,none⟩=some (.slice (some ⟨ub,uo,none⟩) rk uc)∧W8.cell? ⟨ub,uo+k,none⟩=some (.int .i64 x)∧W8.cell? ⟨W1.heap.size,i,none⟩=some (.slice va wl.length vc):=⟨q1,q2,q3,q4,q5⟩
            refine hK _ _ (fun _=>nI) ?_;clear hK K;try simp only[lX]
            refine Late.o 21 rfl (fun K hK=>?_);go_simp;refine hK _ _ (fun _=>nI) ?_;clear hK K;try simp only[lX]
            refine Late.o 22 rfl (fun K hK=>?_);go_simp;refine hK _ _ (fun h=>absurd rfl h) ?_;clear hK K;try simp only[lX]
            refine Late.done (by kernel_rfl) ?_ _;have H7:=(AX.ext (xd.trans xa)).put i _ (.slice wQ (wl.length+1) wR) (wl++[x]) hv k8 (by rw[aD,a_];exact o8) s8 (fun b hb=>by have:=((xi.trans xd).trans xa).size;omega);rw[←HWI.out,Yk r.rows r.there r.next nn r.want.length g k i hiw]at H7;have ad3:=hide (And.intro H7 (x8.then (bI W8 W1.heap.size i (.slice wQ (wl.length+1) wR)) (fun b hb e=>by have:=x1.size;omega)));clear H7 hS0 nI q1 q2 q3 q4 q5 q6 bL o8 k8 s8 z0 z1 z2 z3 z4 GK hvB hv
            go_wp2_with fail
            go_roundw
            case rel=>exact⟨i+1,_,af,by go_num,ad3.out.1,ad3.out.2,.inr hwin⟩
            case measure=>simp[intOf];omega
           ·obtain rfl:i=r.want.length:=af;have i1:¬(r.want.length:Int)<(r.want.length:Int):=af;rw[Yi]at AX
            go_wp2_with fail
            go_roundw
            case rel=>exact⟨k+1,vs,af,by go_num,by have:=HAT.out;rw[show sumTo r.rows g+(k+1)=at_+1 from af];rfl,AX,xi⟩
            case measure=>simp[intOf];omega
          ·have hi0:i=0:=by
            rcases HI.out with e|e
            ·exact e
            ·exact absurd e hwin
           subst hi0;rw[JN]at AX;have TM:=hide (Vf r.rows r.there r.next nn r.want.length g k hgl (by have:=HAT.out;omega));by_cases hw0:0<r.want.length
           ·have i3:decide ((0:Int)<(r.want.length:Int))=true:=aH af;have i4:decide (0<r.want.length)=true:=aH hw0;by_cases hlow:r.next≤at_
            ·have m1:decide ((r.next:Int)≤(at_:Int))=true:=aH af;have m3:decide (r.next≤at_)=true:=aH hlow;have m2:decide ((at_:Int)<(r.next:Int)+(nn:Int))=false:=aG af
             go_wp2_with fail
             go_roundw
             case rel=>exact⟨k+1,vs,af,by go_num,by have:=HAT.out;rw[show sumTo r.rows g+(k+1)=at_+1 from af];rfl,by rw[TM.out];exact AX,xi⟩
             case measure=>simp[intOf];omega
            ·have m1:decide ((r.next:Int)≤(at_:Int))=false:=aG af;have m3:decide (r.next≤at_)=false:=aG hlow
             go_wp2_with fail
             go_roundw
             case rel=>exact⟨k+1,vs,af,by go_num,by have:=HAT.out;rw[show sumTo r.rows g+(k+1)=at_+1 from af];rfl,by rw[TM.out];exact AX,xi⟩
             case measure=>simp[intOf];omega
           ·have i3:decide ((0:Int)<(r.want.length:Int))=false:=aG af;have i4:decide (0<r.want.length)=false:=aG hw0
            go_wp2_with fail
            go_roundw
            case rel=>exact⟨k+1,vs,af,by go_num,by have:=HAT.out;rw[show sumTo r.rows g+(k+1)=at_+1 from af];rfl,by rw[TM.out];exact AX,xi⟩
            case measure=>simp[intOf];omega
        ·obtain rfl:k=rk:=af;have k1:¬(k:Int)<(k:Int):=af;rw[HON.out]at Vk
         go_wp2_with fail
         go_roundw
         case rel=>exact⟨g+1,vs,af,by go_num,by rw[HS.out],Vk,xk⟩
         case measure=>simp[intOf];omega
      ·obtain rfl:g=r.rows.length:=af;have g1:¬(r.rows.length:Int)<(r.rows.length:Int):=af;have HOU:Hid (outs r.rows r.there r.next nn r.want.length r.rows.length 0=(List.range r.want.length).map fun i=>((Pl.yR r.rows r.there i).drop r.next).take nn):=by
        show _=_;unfold outs j6;refine List.map_congr_left (fun i _=>?_);rw[Ve]
       have HE:Hid (Pl.iE r=({r with next:=r.next+nn,state:=if r.next+nn=r.rows.sum then 1 else 0},some (outs r.rows r.there r.next nn r.want.length r.rows.length 0))):=by
        show _=_;unfold Pl.iE;rw[if_pos hst,←HNN.out,if_neg hret,HOU.out]
       have hR:=h.ext xg;have e13:=hR.blk.cell 13;have g13:=hR.blk.free 13;simp only[dm,I,au]at e13;have hR2:=hR.p8 13 (.int .i64 ((r.next:Int)+(nn:Int))) (r':={r with next:=r.next+nn}) (by simp[dm,I]) ⟨hR.inn.gP,hR.inn.top,hR.inn.names,hR.inn.iA,hR.inn.pieces,hR.inn.cB,hR.inn.parts,hR.inn.rows,hR.inn.there⟩;have k2:=hR.p9 13 (.int .i64 ((r.next:Int)+(nn:Int)));have hNl:=Yj r.rows r.there r.next nn r.want.length r.rows.length 0;have hYL:¬W1.heap.size=Y:=fun e=>by have:=h.blk.lt;have:=x1.size;omega
       have ZC:=hNg.kept (bI wr Y 13 (.int .i64 ((r.next:Int)+(nn:Int)))) (fun b hb _ e=>by have:=h.blk.lt;omega);by_cases hend:r.next+nn=r.rows.sum
       ·have q1:((r.next:Int)+(nn:Int)==(r.rows.sum:Int))=true:=by
         have:(r.next:Int)+(nn:Int)=(r.rows.sum:Int):=af;simpa using this
        have uR:=hR2.p8 6 (.int .i64 1) (r':={r with next:=r.next+nn,state:=1}) (by simp[dm,I]) ⟨hR2.inn.gP,hR2.inn.top,hR2.inn.names,hR2.inn.iA,hR2.inn.pieces,hR2.inn.cB,hR2.inn.parts,hR2.inn.rows,hR2.inn.there⟩;have k3:=hR2.p9 6 (.int .i64 1);have Lx:=ZC.kept (bI _ Y 6 (.int .i64 1)) (fun b hb _ e=>by have:=h.blk.lt;omega);have e6:=hR2.blk.cell 6;have g6:=hR2.blk.free 6;simp only[dm,I,au]at e6;have HF:=hide (And.intro uR (And.intro ((Kp.cZ xg).trans (k2.trans k3)) Lx));have HE2:Hid (Pl.iE r=({r with next:=r.next+nn,state:=1},some (outs r.rows r.there r.next nn r.want.length r.rows.length 0))):=by show _=_;rw[HE.out,if_pos hend]
        clear uR k3 Lx hR2 k2 ZC
        go_wp2_with fail
        go_ret;rw[HE2.out];exact Ao.mk (.inr ⟨_,W1.heap.size,vs,rfl,by rw[hNl];rfl,HF.out.2.2⟩) HF.out.1 HF.out.2.1
       ·have q1:((r.next:Int)+(nn:Int)==(r.rows.sum:Int))=false:=by
         have:¬(r.next:Int)+(nn:Int)=(r.rows.sum:Int):=af;simpa using this
        have HF:=hide (And.intro hR2 (And.intro ((Kp.cZ xg).trans k2) ZC));have HE2:Hid (Pl.iE r=({r with next:=r.next+nn},some (outs r.rows r.there r.next nn r.want.length r.rows.length 0))):=by
         show _=_;rw[HE.out,if_neg hend];rw[←hst]
        clear hR2 k2 ZC
        go_wp2_with fail
        go_ret;rw[HE2.out];exact Ao.mk (.inr ⟨_,W1.heap.size,vs,rfl,by rw[hNl];rfl,HF.out.2.2⟩) HF.out.1 HF.out.2.1
 ·have b0:((r.state:Int)==0)=false:=by
   have:¬(r.state:Int)=0:=af;simpa using this
  have HE:Hid (Pl.iE r=(r,none)):=by show _=_;unfold Pl.iE;rw[if_neg hst]
  go_enter Tryz.func39,Tryz.ntmps39
  go_wp2_with fail
  go_ret;rw[HE.out];exact Ao.mk (.inl ⟨rfl,rfl⟩) h ax
end Go.Proofs.YthicgffppmbamaaGreat
