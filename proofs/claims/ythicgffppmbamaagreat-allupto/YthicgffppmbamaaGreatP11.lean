import Derived.Lib.SliceRun
import Derived.Test.YthicgffppmbamaaGreatP2
import Derived.Test.YthicgffppmbamaaGreatP3
set_option maxRecDepth 100000
set_option maxHeartbeats 16000000
namespace Go.Proofs.YthicgffppmbamaaGreat
open Go.RowKit
abbrev Xj (a b c:Nat)(p:Nat):Value:=.agg #[.int .i64 a,.int .i64 b,.int .i64 c,fq 118 (PtrTo p 0),fq 119 (PtrTo p 0)]
theorem T_ (w:World)(q a b c p:Nat)(id:Int)(hq:w.cell? ⟨q,0,none⟩=some (.int .i64 id)):
 Calls Tryz.prog 127 #[Xj a b c p,PtrTo q 0] w fun e w'=>e=.returned (.bool (decide ((a:Int)=id)))∧Ext w w':=by
 have kK:q<w.heap.size:=World.block_lt_of_cell? w _ hq;by_cases hd:(a:Int)=id
 ·rw[aH hd];go_enter Tryz.func127,Tryz.ntmps127
  go_wp2_with fail
  go_ret;exact⟨rfl,ax.alloc _⟩
 ·have hd':((a:Int)==id)=false:=by simpa using hd
  rw[aG hd];go_enter Tryz.func127,Tryz.ntmps127
  go_wp2_with fail
  go_ret;exact⟨rfl,ax.alloc _⟩
theorem LX (w:World)(v:Value)(ps:List Nat)(l:List (Nat×Pl.Part))(q:Nat)(id:Int)(h:Own w 5 v l.length (gu ps l))(hps:ps.length=l.length)(hq:w.cell? ⟨q,0,none⟩=some (.int .i64 id))(hl:l.length≤1000):
 Calls Tryz.prog 126 #[v,.func (.func 127) #[] #[PtrTo q 0]] w fun e w'=>e=.returned (.int .i64 (nX (Pl.gM l id)))∧Ext w w':=by
 have hown:=h;obtain⟨aa,ac,rfl,hac⟩:=h.shape;clear h;generalize hP:Pl.gM l id=P0;have HP:=hide hP;clear hP;go_enter Tryz.func126,Tryz.ntmps126
 go_wp2_with fail
 go_loopw [8] (fun i wr=>∃k:Nat,k≤l.length∧i=.int .i64 k∧Hid ((l.take k).findIdx? (fun q=>decide ((q.1:Int)=id))=none)∧Ext w wr) (fun i _=>l.length-(intOf i).toNat)
 case atStart=>exact⟨0,aM _,rfl,by show _=_;simp,Kp.refl _ _⟩
 case round=>
  obtain⟨k,hk,rfl,hall,hx⟩:=hrel;by_cases hkl:k<l.length
  ·obtain⟨ga,ca,he,_,hga,hc⟩:=hown.at af;cases he;have hck:∀j,j<5→wr.cell? ⟨ga,k*5+j,none⟩=(gN (ps[k]'af) l[k])[j]?:=fun j hj=>by
    have e:=yg ps l hps k j hkl hj;have e2:=hc (k*5+j) af;rw[e]at e2;have:j<(gN (ps[k]'af) l[k]).length:=hj;rw[ay this]at e2⊢;exact hx.cell e2 (fun f=>f)
   have d0:=hck 0 af;have d1:=hck 1 af;have d2:=hck 2 af;have d3:=hck 3 af;have d4:=hck 4 af;simp only[gN,I,au,Nat.add_zero]at d0 d1 d2 d3 d4;have HN:Hid (¬((l[k].1:Nat):Int)=id→(l.take (k+1)).findIdx? (fun q=>decide ((q.1:Int)=id))=none):=hide fun h=>tQ hall.out hkl (aG h)
   have HH:Hid (((l[k].1:Nat):Int)=id→P0=some k):=hide fun h=>by rw[←HP.out];exact ED hall.out hkl (aH h)
   generalize l[k]=rq at*;generalize ps[k]'af=pk at*;generalize rq.2.place+rq.2.data.length=pp at*;generalize rq.2.length-rq.2.data.length=ll at*;have hq1:=hx.cell hq (fun f=>f);have HF:=hide (T_ wr q rq.1 pp ll pk id hq1);clear hck hc;generalize rq.1=r1 at*;by_cases hok:(r1:Int)=id
   ·rw[aH hok]at HF;have HG:=hide (HH.out hok);clear hok hq1
    go_wp2_with (go_at_call 127;refine(bH HF).mono ?_;rintro e w1 ⟨rfl,x1⟩)
    go_ret;rw[HG.out];exact⟨rfl,hx.trans x1⟩
   ·rw[aG hok]at HF;have HG:=hide (HN.out hok);clear hok hq1
    go_wp2_with (go_at_call 127;refine(bH HF).mono ?_;rintro e w1 ⟨rfl,x1⟩)
    go_roundw
    case rel=>exact⟨k+1,af,by go_num,HG,hx.trans x1⟩
    case measure=>simp[intOf];omega
  ·go_wp2_with fail
   go_ret;obtain rfl:k=l.length:=af;rw[←HP.out];unfold Pl.gM;rw[EF hall.out];exact⟨rfl,hx⟩
theorem LY (col:bU)(w:World)(P:Nat)(m:Pl.Sc)(ps qs:List Nat)(nv av wv hv gv:Value)(h:fA col w P m ps qs nv av wv hv gv)(id:Int)(hal:m.asked.length≤1000):
 Calls Tryz.prog 105 #[PtrTo P 7,.int .i64 id] w fun e w'=>e=.returned (.int .i64 (nX (Pl.gM m.asked id)))∧Ext w w':=by
 have s10:=h.blk.cell 10;simp only[dw,au]at s10;have hown:=h.inn.asked;have hpl:=h.inn.eY.1;obtain⟨aa,ac,rfl,hac⟩:=hown.shape;have x0:Ext w (w.alloc (.cells #[.int .i64 id] 3)):=ax.alloc _;have b0:=bK.bO w [.int .i64 id] 3;have hIx:=LX _ _ ps m.asked w.heap.size id (hown.ext x0) hpl (b0.cell 0) hal;have HIx:=hide hIx;have Ew:=x0.cell s10 (fun f=>f);have HX:=hide x0;clear hIx hown hpl h hac b0 x0;go_enter Tryz.func105,Tryz.ntmps105
 go_wp2_with (go_at_call 126;refine(bH HIx).mono ?_;rintro e w1 ⟨rfl,x1⟩)
 go_ret;exact⟨rfl,HX.out.trans x1⟩
theorem step_append_room {P:Program}{ops:Array Oper}{o:Oper}{a:Act}{w:World}{K:Act→World→Prop}{Q:Exit→Act→World→Prop}{E:Prop}
 (hg:o.guard=none)(s x:Operand)(t tx:TypeId)(ho:o.op=.call {callee:=.builtin .append,args:=#[s,x],argTypes:=#[t,tx]})(e:TypeId)(z:Value)(size bytes:Nat)(ht:P.underlying t=some (.slice e))(hinfo:(P.info? e).map (fun i=>(i.zero,i.size,i.bytes))=some (some z,size,bytes))(hzc:z.cells.size=size)
 (g n cap:Nat)(cs:List Value)(hv:a.eval s=.slice (some ⟨g,0,none⟩) n cap)(hown:Own w size (.slice (some ⟨g,0,none⟩) n cap) n cs)(xv:Value)(hx:a.eval x=xv)(m:Nat)(news:List Value)(hs:Src P size tx xv m news w)(hroom:n+m≤cap)(hb:(n+m)*bytes≤140737488355328)(hm:n+m≤1000000000000000)
 (hK:∀w',Own w' size (.slice (some ⟨g,0,none⟩) (n+m) cap) (n+m) (cs++news)→Kp (fun k=>k=g) w w'→K (a.put o.dst (.slice (some ⟨g,0,none⟩) (n+m) cap)) w'):
 if Region.wanted o (yielded ops a.tmps)=true then Oper.wp P o a w K Q else E:=by
 have hw:Region.wanted o (yielded ops a.tmps)=true:=by simp[Region.wanted,hg]
 rw[if_pos hw];obtain⟨v',w',hrun,r1,r2,r3⟩:=vV P w t e tx o.type z size bytes ht hinfo hzc _ n cs hown xv m news hs hb hm;obtain⟨i0,hi,hz0,hz1,hz2⟩:=info_parts hinfo;have hs':Src P i0.size tx xv m news w:=by rw[hz1];exact hs
 have hnl:news.length=m*size:=hs.newsLen;have hext:∀j,j<cap*size→(w.cell? ⟨g,j,none⟩).isSome=true∧w.frozen? ⟨g,j,none⟩=false:=by
  rcases hown.2 with⟨e,_⟩|⟨g',cap',e,_,_,_,_,h5⟩
  ·cases e
  ·cases e;exact h5
 have hcs:(n+m)*size≤cap*size:=Nat.mul_le_mul_right _ hroom;rw[Nat.add_mul]at hcs;have Ra:=run_append_room_src (P:=P) w t tx o.type e i0 ht hi g 0 n cap xv m news hs' hroom
  (fun j hj=>by rw[hz1,Nat.zero_add];exact(hext _ af).1) (fun j hj=>by rw[hz1,Nat.zero_add];exact(hext _ af).2)
 rw[Nat.zero_add]at Ra;rw[Ra]at hrun;simp only[Result.ok.injEq]at hrun;obtain⟨e1,e2⟩:=hrun;subst e1;unfold Oper.wp;simp[execOp,ho,resolve,invoke,builtin,hv,hx,Ra,Result.andThen];rw[e2];exact hK w' r1 (r2.mono (fun k _ e=>(Option.some.inj (show some g=some k from e)).symm))
def Ae :List Value:=[.int .i64 0,.int .i64 0,.int .i64 0,.nilFunc,.nilFunc]
theorem Xl (w:World):(zeroValue 169).run Tryz.prog w=.ok Ev w:=by
 obtain⟨i,hi,hz0,hz1,hz2⟩:=info_parts CV;simp[zeroValue,typeInfo,hi,hz0]
theorem Kw (w:World)(ty:TypeId)(b o c:Nat)(hc:∀j,j<5→(w.cell? ⟨b,o+j,none⟩).isSome=true)(hf:∀j,j<5→w.frozen? ⟨b,o+j,none⟩=false):
 (Builtin.clear_ #[133] ty #[.slice (some ⟨b,o,none⟩) 1 c]).run Tryz.prog w=.ok (.tuple #[]) (w.setCells b o Ae):=by
 have hzc:(Builtin.zeroCells Ev.cells 1).toList=Ae:=by kernel_rfl
 have hst:=run_storeCells_cells (P:=Tryz.prog) b o Ae 0 w (by simpa[Ae]using hc) (by simpa[Ae]using hf) (by intro v hv;simp[Ae]at hv;rcases hv with rfl|rfl<;>rfl);simp only[Nat.add_zero]at hst;have hzr:=Xl;unfold Ev at hzc hzr;simp[Builtin.clear_,run_underlying Tryz.underlying133,hzr,hzc,hst]
theorem Own.beyond {w:World}{s n g cap:Nat}{cs:List Value}(h:Own w s (.slice (some ⟨g,0,none⟩) n cap) n cs)(o:Nat)(vs:List Value)(ho:n*s≤o)(hl:o+vs.length≤cap*s):Own (w.setCells g o vs) s (.slice (some ⟨g,0,none⟩) n cap) n cs:=by
 refine⟨h.1,?_⟩;rcases h.2 with⟨e,_⟩|⟨g',cap',e,h1,h2,h3,h4,h5⟩
 ·cases e
 ·cases e;have hsz:=(World.keptBut_setCells g (may:=fun _=>True) vs o w (fun _ _=>trivial)).size;refine .inr ⟨g,cap,rfl,h1,h2,af,fun j hj=>?_,fun j hj=>⟨?_,by rw[World.frozen?_setCells];exact(h5 j hj).2⟩⟩
  ·rw[World.cell?_setCells_out g _ _ _ _ (fun _ _=>Or.inl (by show j<o;omega))];exact h4 j hj
  ·by_cases hc:j<o∨o+vs.length≤j
   ·rw[World.cell?_setCells_out g _ _ _ _ (fun _ _=>hc)];exact(h5 j hj).1
   ·have:=World.cell?_setCells_in g vs o w (fun j' hj'=>(h5 _ af).1) (j-o) af;rw[show o+(j-o)=j from af]at this;rw[this];rfl
theorem Own.prefix {w:World}{s n g cap:Nat}{cs:List Value}(h:Own w s (.slice (some ⟨g,0,none⟩) n cap) n cs)(q:Nat)(hq:q≤n):Own w s (.slice (some ⟨g,0,none⟩) q cap) q (cs.take (q*s)):=by
 have hqs:q*s≤n*s:=Nat.mul_le_mul_right _ hq;refine⟨by rw[aU,h.1];omega,?_⟩;rcases h.2 with⟨e,_⟩|⟨g',cap',e,h1,h2,h3,h4,h5⟩
 ·cases e
 ·cases e;refine .inr ⟨g,cap,rfl,af,h2,h3,fun j hj=>?_,h5⟩;rw[List.getElem?_take_of_lt hj];exact h4 j af
theorem Own.there {w:World}{s n g cap:Nat}{cs:List Value}(h:Own w s (.slice (some ⟨g,0,none⟩) n cap) n cs):n≤cap∧∀j,j<cap*s→(w.cell? ⟨g,j,none⟩).isSome=true∧w.frozen? ⟨g,j,none⟩=false:=by
 rcases h.2 with⟨e,_⟩|⟨g',cap',e,h1,h2,h3,h4,h5⟩
 ·cases e
 ·cases e;exact⟨h1,h5⟩
theorem Rb (w:World)(g cap k i j:Nat)(cs:List Value)(hO:Own w 5 (.slice (some ⟨g,0,none⟩) (k+1) cap) (k+1) cs)(hone:∀u∈cs,u.oneCell'=true)(hi:i≤k)(hk:k≤1000)(hj:j=i+1):
 Calls Tryz.prog 128 #[.slice (some ⟨g,0,none⟩) (k+1) cap,.int .i64 i,.int .i64 j] w fun e w'=>e=.returned (.slice (some ⟨g,0,none⟩) k cap)∧Own w' 5 (.slice (some ⟨g,0,none⟩) k cap) k (cs.take (i*5)++cs.drop ((i+1)*5))∧Kp (fun k=>k=g) w w':=by
 obtain⟨hkc,hth⟩:=hO.there;have hcell:=fun j hj=>(hO.cellAt j hj).1
 have hP:=hO.prefix i af;have hlen:=hO.1;have hsrc:∀u,Ext w u→Src Tryz.prog 5 133 (.slice (if cap=j then some ⟨g,0,none⟩else some ⟨g,j*5,none⟩) (k+1-j) (cap-j)) (k-i) (cs.drop ((i+1)*5)) u:=fun u hu=>by
  have hkj:k+1-j=k-i:=af;rw[hkj];by_cases hc:cap=j
  ·rw[if_pos hc];have h0:cs.drop ((i+1)*5)=[]:=List.drop_eq_nil_of_le (by rw[hlen];omega);rw[h0,show k-i=0 from af];exact Src.ofSlice (P:=Tryz.prog) _ (e':=169) Tryz.underlying133 _ _ _ _ aj (fun j u hu=>by simp at hu) (fun u hu=>by simp at hu)
  ·rw[if_neg hc];exact Src.ofSlice (P:=Tryz.prog) _ (e':=169) Tryz.underlying133 _ _ _ _ (by rw[bq,hlen];omega) (fun q u' hu'=>by
    rw[List.getElem?_drop]at hu';have hq:=(aL.1 hu').1;rw[Addr.add_lit,hj];exact hu.cell ((hcell _ af).trans hu') id) (fun u hu=>hone u (List.mem_of_mem_drop hu))
 have aiC:=hide hsrc;have HO:=hide hO;have HJ:=hide hj;have h1:i<j:=af;have h2:j≤k+1:=af;have h3:i≤cap:=af;have h4:j≤cap:=af;have h5:i≤j:=af;have h6:¬(i:Int)=(j:Int):=af;have h7:k≤cap:=af;have h8:(j:Int)≤(k:Int)+1:=af;have HN:Hid (i+(k-i)=k):=hide af;have HTH:=hide hth;clear hj hsrc hO hcell hlen hth;go_enter Tryz.func128,Tryz.ntmps128
 go_wp2_with fail
 have hx1:Kp (fun k=>k=g) w w.drew:=ax.drew;have xd:Ext w w.drew:=ax.drew;refine bZ (n:=7) (Kp (fun k=>k=g) w) (by kernel_rfl) ?_;refine Late.t 0 [7] rfl hx1 ?_;refine Late.t 1 [7] rfl hx1 ?_;refine Late.t 2 [7] rfl hx1 ?_;refine Late.t 3 [7] rfl hx1 ?_;refine Late.t 4 [7] rfl hx1 ?_;refine Late.t 5 [7] rfl hx1 ?_;refine Late.o 6 rfl (fun K hK=>?_);refine step_append_room rfl _ _ 133 133 rfl 169 Ev 5 40 Tryz.underlying133 CV rfl g i cap _ (by rfl) (hP.ext xd) _ (by rfl) _ _ ((bH aiC) _ xd) af af af ?_;rw[HN.out];intro w5 o5 k5;have g5:Kp (fun k=>k=g) w w5:=hx1.trans k5;refine hK _ _ (fun _=>g5) ?_;clear hK K;try simp only[lX]
 refine Late.o 7 rfl (fun K hK=>?_);go_simp;refine hK _ _ (fun h=>absurd rfl h) ?_;clear hK K;try simp only[lX]
 refine Late.done (by kernel_rfl) ?_ _;have abU:=o5.there.2;have hcl:=Kw w5 0 g (k*5) (cap-k) (fun q hq=>(abU (k*5+q) af).1) (fun q hq=>(abU (k*5+q) af).2);have o6:=o5.beyond (k*5) Ae (aK _) (by show k*5+5≤cap*5;omega);have k6:=oI g Ae (k*5) w5;have hck:¬cap=k:=af;have h9:k+1-k=1:=af;have h10:(k:Int)≤(k:Int)+1:=af;generalize w5.setCells g (k*5) Ae=W6 at*
 go_wp2_with fail
 all_goals go_ret
 ·rw[h]at o6;exact⟨rfl,o6,g5.trans k6⟩
 ·exact⟨rfl,o6,g5.trans k6⟩
theorem u_ (p1 p2:List Nat)(l1 l2:List (Nat×Pl.Part))(h:p1.length=l1.length):gu (p1++p2) (l1++l2)=gu p1 l1++gu p2 l2:=by
 unfold gu;rw[List.zipWith_append h,List.flatten_append]
theorem Rc (ps:List Nat):∀(l:List (Nat×Pl.Part)),ps.length=l.length→(gu ps l).length=l.length*5:=by
 induction ps with
 |nil=>intro l h;simp at h;rw[aT h.symm];rfl
 |cons a r ih=>
  intro l h;cases l with
  |nil=>simp at h
  |cons p l=>
   simp at h;have:=ih l h;unfold gu at*;simp only[List.zipWith_cons_cons,List.flatten_cons,aD,aR,this];show 5+_=_;omega
theorem L6 (ps:List Nat)(l:List (Nat×Pl.Part))(h:ps.length=l.length)(i:Nat)(hi:i<l.length):(gu ps l).take (i*5)++(gu ps l).drop ((i+1)*5)=gu (ps.eraseIdx i) (l.eraseIdx i):=by
 have e1:ps=ps.take i++([ps[i]'af]++ps.drop (i+1)):=by rw[List.singleton_append,←aV af,List.take_append_drop]
 have e2:l=l.take i++([l[i]]++l.drop (i+1)):=by rw[List.singleton_append,←aV hi,List.take_append_drop]
 have hl1:(ps.take i).length=(l.take i).length:=by rw[aU,aU,h]
 have hlen1:(gu (ps.take i) (l.take i)).length=i*5:=by rw[Rc _ _ hl1,aU,Nat.min_eq_left af]
 have e3:gu ps l=gu (ps.take i) (l.take i)++(gu [ps[i]'af] [l[i]]++gu (ps.drop (i+1)) (l.drop (i+1))):=
  (congr (congrArg gu e1) e2).trans (by rw[u_ _ _ _ _ hl1,u_ _ _ _ _ rfl])
 rw[List.eraseIdx_eq_take_drop_succ,List.eraseIdx_eq_take_drop_succ,u_ _ _ _ _ hl1,e3]
 congr 1
 ·rw[List.take_append_of_le_length af,List.take_of_length_le af]
 ·have hr:(gu [ps[i]'af] [l[i]]).length=5:=rfl;rw[List.drop_append,List.drop_eq_nil_of_le af,List.nil_append,List.drop_append,List.drop_eq_nil_of_le af,List.nil_append,show(i+1)*5-(gu (ps.take i) (l.take i)).length-(gu [ps[i]'af] [l[i]]).length=0 from af,List.drop_zero]
theorem Rf (ps:List Nat)(l:List (Nat×Pl.Part)):∀u∈gu ps l,u.oneCell'=true:=by
 intro u hu;unfold gu at hu;rw[List.mem_flatten]at hu;obtain⟨e,he,hu⟩:=hu;rw[List.mem_iff_getElem]at he;obtain⟨i,hi,rfl⟩:=he;rw[List.getElem_zipWith]at hu;simp[gN]at hu;rcases hu with rfl|rfl|rfl|rfl|rfl<;>rfl
theorem PartsAt.erase {col:bU}{w:World}{P:Nat}{ps:List Nat}{l:List (Nat×Pl.Part)}(h:PartsAt col w P ps l)(i:Nat):PartsAt col w P (ps.eraseIdx i) (l.eraseIdx i):=by
 refine⟨by rw[List.length_eraseIdx,List.length_eraseIdx,h.1],fun k p q a b=>?_⟩;rw[List.getElem?_eraseIdx]at a b;split at a
 ·rename_i hk;rw[if_pos hk]at b;exact h.2 k p q a b
 ·rename_i hk;rw[if_neg hk]at b;exact h.2 (k+1) p q a b
theorem fA.aam {col:bU}{w w1:World}{P i g cap:Nat}{m:Pl.Sc}{ps qs:List Nat}{nv wv hv gv:Value}(h:fA col w P m ps qs nv (.slice (some ⟨g,0,none⟩) m.asked.length cap) wv hv gv)(k:Kp (fun k=>k=g) w w1)(hi:i<m.asked.length)(o:Own w1 5 (.slice (some ⟨g,0,none⟩) (m.asked.length-1) cap) (m.asked.length-1) (gu (ps.eraseIdx i) (m.asked.eraseIdx i))):
 fA col (w1.setCell ⟨P,10,none⟩ (.slice (some ⟨g,0,none⟩) (m.asked.length-1) cap)) P (Pl.dF m i) (ps.eraseIdx i) qs nv (.slice (some ⟨g,0,none⟩) (m.asked.length-1) cap) wv hv gv∧cu col w (w1.setCell ⟨P,10,none⟩ (.slice (some ⟨g,0,none⟩) (m.asked.length-1) cap)) col∧(∃dv xv,jU col (w1.setCell ⟨P,10,none⟩ (.slice (some ⟨g,0,none⟩) (m.asked.length-1) cap)) P (ps.getD i 0) (Pl.partAt m i) dv xv)∧ps.getD i 0∉ps.eraseIdx i++qs:=by
 have hgc:col g=.asked:=h.inn.jd g rfl;have ja:∀i,(i=g)→col i=.asked:=fun i hi=>by rw[hi];exact hgc
 have hcalm:Calm col (fun k=>k=g):=Calm.one .asked ja aj aj aj aj aj;have r:=h.inn.rest k hcalm (fun _ _=>rfl);have Di:¬P=g:=fun e=>by have:=hgc;rw[←e,h.inn.cB]at this;simp at this
 have hb1:=h.blk.kept k Di;have hpl:ps.length=m.asked.length:=h.inn.eY.1;have hin:Inner col w1 P (Pl.dF m i) (ps.eraseIdx i) qs nv (.slice (some ⟨g,0,none⟩) (m.asked.length-1) cap) wv hv gv:=by
  refine⟨h.inn.cB,fun q hq=>h.inn.top q (aO k.size hq),r.names,?_,fun q hq=>by simp[Value.ownBlock]at hq;rw[←hq];exact hgc,r.eY.erase i,?_,h.inn.jW,r.gI,?_,r.ahead,r.groups⟩
  ·show Own w1 5 _ (m.asked.eraseIdx i).length _;rw[List.length_eraseIdx,if_pos hi];exact o
  ·exact h.inn.waiting.kept k (fun q hq hs=>by have:=ja q hs;rw[h.inn.jW q hq]at this;simp at this)
  ·exact(List.Sublist.append (List.eraseIdx_sublist ps i) (List.Sublist.refl qs)).nodup h.inn.nodup
 have hrep:fA col (w1.setCell ⟨P,10,none⟩ (.slice (some ⟨g,0,none⟩) (m.asked.length-1) cap)) P (Pl.dF m i) (ps.eraseIdx i) qs nv (.slice (some ⟨g,0,none⟩) (m.asked.length-1) cap) wv hv gv:=by
  refine⟨?_,hin.put (bI w1 P 10 _) hb1.lt⟩;exact hb1.set 10 (.slice (some ⟨g,0,none⟩) (m.asked.length-1) cap)
 refine⟨hrep,⟨?_,fun _ _=>rfl⟩,?_,?_⟩
 ·refine(k.mono (fun q _ hq=>?_)).setCell (p:=⟨P,10,none⟩) (.inl ?_) _
  ·show col q≠.out;rw[ja q hq];simp
  ·show col P≠.out;rw[h.inn.cB];simp
 ·have hpi:ps.getD i 0=ps[i]'af:=by rw[aC,ay af];rfl
  obtain⟨dv,xv,hp⟩:=r.eY.2 i _ _ (ay af) (ay hi);rw[hpi];have hpa:Pl.partAt m i=m.asked[i].2:=by unfold Pl.partAt;rw[aC,ay hi];rfl
  rw[hpa];have hpp:¬ps[i]'af=P:=fun e=>by have:=hp.cB;rw[e,h.inn.cB]at this;simp at this
  exact⟨dv,xv,hp.go (bI w1 P 10 _) hpp (fun q hq=>by rw[hq,h.inn.cB];simp) (fun q hq=>by rw[hq,h.inn.cB];simp) (fun _ _=>rfl)⟩
 ·have hpi:ps.getD i 0=ps[i]'af:=by rw[aC,ay af];rfl
  rw[hpi];intro hm;have hnd:=h.inn.nodup;have hsplit:ps=ps.take i++ps[i]'af::ps.drop (i+1):=by rw[←aV af,List.take_append_drop]
  rw[hsplit,aW,List.cons_append,List.nodup_append]at hnd;obtain⟨-,hn2,Pp⟩:=hnd;rw[List.eraseIdx_eq_take_drop_succ,aW]at hm;rcases aI.1 hm with hm|hm
  ·exact Pp _ hm _ List.mem_cons_self rfl
  ·exact(List.nodup_cons.1 hn2).1 hm
theorem BG (col:bU)(w:World)(P:Nat)(m:Pl.Sc)(ps qs:List Nat)(nv av wv hv gv:Value)(h:fA col w P m ps qs nv av wv hv gv)(i:Nat)(hi:i<m.asked.length)(hal:m.asked.length≤1000):
 Calls Tryz.prog 106 #[PtrTo P 7,.int .i64 i] w fun e w'=>(∃a b c,e=.returned (Xj a b c (ps.getD i 0)))∧∃eZ,fA col w' P (Pl.dF m i) (ps.eraseIdx i) qs nv eZ wv hv gv∧cu col w w' col∧(∃dv xv,jU col w' P (ps.getD i 0) (Pl.partAt m i) dv xv)∧ps.getD i 0∉ps.eraseIdx i++qs:=by
 have s10:=h.blk.cell 10;have f10:=h.blk.free 10;simp only[dw,au]at s10;have hown:=h.inn.asked;have hpl:=h.inn.eY.1;obtain⟨g,cap,rfl,hcap,hgl,hc⟩:=hown.at af;have FT:=h.blk.lt;have hgP:g≠P:=fun e=>by have:=h.inn.jd g rfl;rw[e,h.inn.cB]at this;simp at this
 have hpi:ps.getD i 0=ps[i]'af:=by rw[aC,ay af];rfl
 have hck:∀j,j<5→w.cell? ⟨g,i*5+j,none⟩=(gN (ps.getD i 0) m.asked[i])[j]?:=fun j hj=>by
  rw[hpi,hc (i*5+j) af,yg ps m.asked hpl i j hi hj]
 have d0:=hck 0 af;have d1:=hck 1 af;have d2:=hck 2 af;have d3:=hck 3 af;have d4:=hck 4 af;simp only[gN,I,au,Nat.add_zero]at d0 d1 d2 d3 d4;clear hck hc hpi;generalize m.asked[i].1=ra at*;generalize m.asked[i].2.place+m.asked[i].2.data.length=rb at*;generalize m.asked[i].2.length-m.asked[i].2.data.length=rc at*;generalize hpk:ps.getD i 0=pk at*;have jJ:=hide hpk;clear hpk;obtain⟨k,hk⟩:∃k,m.asked.length=k+1:=⟨m.asked.length-1,af⟩
 obtain⟨j,hj⟩:∃j,j=i+1:=⟨_,rfl⟩
 have hji:(i:Int)+1=(j:Int):=af;have FZ:=hide (fun w1 k1 o1=>h.aam (w1:=w1) (i:=i) k1 hi o1);rw[hk]at FZ s10 hown hal hcap hi;rw[Nat.add_sub_cancel]at FZ;rw[jJ.out]at FZ;have HD:=hide (fun(u:World)(hu:Ext w u)=>Rb u g cap k i j _ (hown.ext hu) (Rf _ _) af af hj);have HER:=hide (L6 ps m.asked hpl i af);have hxP:=h.inn.cB;have am4:=h.inn.jd g rfl;have htop:col w.heap.size=.out:=h.inn.top _ (aK _);clear hk hj hown h;go_enter Tryz.func106,Tryz.ntmps106
 go_upto_region 2 with fail
 have x1:Ext w ((w.alloc (.cells #[.int .i64 0,.int .i64 0,.int .i64 0,.nilFunc,.nilFunc] 169)).alloc (.cells #[.int .i64 ra,.int .i64 rb,.int .i64 rc,fq 118 (PtrTo pk 0),fq 119 (PtrTo pk 0)] 169)):=(ax.alloc _).alloc _;have bR:bK ((w.alloc (.cells #[.int .i64 0,.int .i64 0,.int .i64 0,.nilFunc,.nilFunc] 169)).alloc (.cells #[.int .i64 ra,.int .i64 rb,.int .i64 rc,fq 118 (PtrTo pk 0),fq 119 (PtrTo pk 0)] 169)) w.heap.size [.int .i64 0,.int .i64 0,.int .i64 0,.nilFunc,.nilFunc] 169:=(bK.bO w [.int .i64 0,.int .i64 0,.int .i64 0,.nilFunc,.nilFunc] _).kept (S:=fun _=>False) (ax.alloc _) id;have bC:bK ((w.alloc (.cells #[.int .i64 0,.int .i64 0,.int .i64 0,.nilFunc,.nilFunc] 169)).alloc (.cells #[.int .i64 ra,.int .i64 rb,.int .i64 rc,fq 118 (PtrTo pk 0),fq 119 (PtrTo pk 0)] 169)) (w.heap.size+1) [.int .i64 ra,.int .i64 rb,.int .i64 rc,fq 118 (PtrTo pk 0),fq 119 (PtrTo pk 0)] 169:=by
  have:=bK.bO (w.alloc (.cells #[.int .i64 0,.int .i64 0,.int .i64 0,.nilFunc,.nilFunc] 169)) [.int .i64 ra,.int .i64 rb,.int .i64 rc,fq 118 (PtrTo pk 0),fq 119 (PtrTo pk 0)] 169;simpa using this
 generalize(w.alloc (.cells #[.int .i64 0,.int .i64 0,.int .i64 0,.nilFunc,.nilFunc] 169)).alloc (.cells #[.int .i64 ra,.int .i64 rb,.int .i64 rc,fq 118 (PtrTo pk 0),fq 119 (PtrTo pk 0)] 169)=W1 at*;have Ew:=x1.cell s10 id;have WM:W1.frozen? ⟨P,10,none⟩=false:=by rw[World.frozen?_of_block (w:=w) (a:=⟨P,10,none⟩) (x1.block P FT id)];exact f10
 have HF:Hid (∀u,Kp (fun k=>k=g) W1 u→u.cell? ⟨P,10,none⟩=some (.slice (some ⟨g,0,none⟩) (k+1) cap)∧u.frozen? ⟨P,10,none⟩=false):=hide fun u hu=>⟨hu.cell Ew (fun e=>hgP (Eq.symm e)),by rw[World.frozen?_of_block (w:=W1) (a:=⟨P,10,none⟩) (hu.block P (aY FT x1.size) (fun e=>hgP (Eq.symm e)))];exact WM⟩
 clear s10 f10 d0 d1 d2 d3 d4
 go_wp2_with fail
 refine((bH HD) W1 x1).mono ?_;rw[HER.out];rintro e w2 ⟨rfl,o2,k2⟩;obtain⟨q1,q2⟩:=(bH HF) w2 k2;obtain⟨r3,g3,pa3,pn3⟩:=(bH FZ) w2 ((Kp.cZ x1).trans k2) o2;have ks:=bI w2 P 10 (.slice (some ⟨g,0,none⟩) k cap);have hwP:P≠w.heap.size:=af
 go_upto_region 3 with fail
 have BH:=(bR.kept k2 af).kept ks (fun e=>hwP (Eq.symm e));have Uc:=(bC.kept k2 af).kept ks af;have cc0:=Uc.cell 0;have cr0:=BH.cell 0;have fr0:=BH.free 0;have oZ:=Uc.cell 1;have cr1:=BH.cell 1;have fr1:=BH.free 1;have Pn:=Uc.cell 2;have cr2:=BH.cell 2;have fr2:=BH.free 2;have Po:=Uc.cell 3;have cr3:=BH.cell 3;have fr3:=BH.free 3;have YJ:=Uc.cell 4;have cr4:=BH.cell 4;have fr4:=BH.free 4;simp only[au]at cc0 oZ Pn Po YJ cr0 cr1 cr2 cr3 cr4;have b4:=((((BH.set 0 (.int .i64 ra)).set 1 (.int .i64 rb)).set 2 (.int .i64 rc)).set 3 (fq 118 (PtrTo pk 0))).set 4 (fq 119 (PtrTo pk 0));have k4:=((((bI (w2.setCell ⟨P,10,none⟩ (.slice (some ⟨g,0,none⟩) k cap)) w.heap.size 0 (.int .i64 ra)).trans (bI _ w.heap.size 1 (.int .i64 rb))).trans (bI _ w.heap.size 2 (.int .i64 rc))).trans (bI _ w.heap.size 3 (fq 118 (PtrTo pk 0)))).trans (bI _ w.heap.size 4 (fq 119 (PtrTo pk 0)));clear HD FZ HF;generalize w2.setCell ⟨P,10,none⟩ (.slice (some ⟨g,0,none⟩) k cap)=W3 at*
 go_wp2_with fail
 generalize((((W3.setCell ⟨w.heap.size,0,none⟩ (.int .i64 ra)).setCell ⟨w.heap.size,1,none⟩ (.int .i64 rb)).setCell ⟨w.heap.size,2,none⟩ (.int .i64 rc)).setCell ⟨w.heap.size,3,none⟩ (fq 118 (PtrTo pk 0))).setCell ⟨w.heap.size,4,none⟩ (fq 119 (PtrTo pk 0))=W4 at*;have e0:=b4.cell 0;have e1:=b4.cell 1;have e2:=b4.cell 2;have e3:=b4.cell 3;have e4:=b4.cell 4;simp only[List.set_cons_zero,List.set_cons_succ,au]at e0 e1 e2 e3 e4;refine bodyPost_ret (v:=Xj ra rb rc pk) (by simp[results,Tryz.results106,go_sem,e0,e1,e2,e3,e4]) rfl ?_;have hout:∀q,(q=w.heap.size)→col q=.out:=fun q hq=>by rw[hq];exact htop
 obtain⟨dv,xv,hpa⟩:=pa3;refine⟨⟨ra,rb,rc,rfl⟩,_,r3.kept k4 hout,⟨g3.kept.then k4 (fun i hi e=>af),fun _ _=>rfl⟩,⟨dv,xv,hpa.go k4 (fun e=>by have:=hpa.cB;rw[e,htop]at this;cases this) (fun q hq=>by rw[hout q hq];simp) (fun q hq=>by rw[hout q hq];simp) (fun _ _=>rfl)⟩,pn3⟩
end Go.Proofs.YthicgffppmbamaaGreat
