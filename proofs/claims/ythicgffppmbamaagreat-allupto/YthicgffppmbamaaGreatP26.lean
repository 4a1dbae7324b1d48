import Derived.Deep.RegionHeld
import Derived.Test.YthicgffppmbamaaGreatP13
import Derived.Test.YthicgffppmbamaaGreatP15
set_option maxRecDepth 100000
set_option maxHeartbeats 16000000
namespace Go.Proofs.YthicgffppmbamaaGreat
open Go.RowKit
theorem Kc (w:World):Ext w w.drew:=ax.drew
theorem YE (B0:Nat)(w:World)(nv gv:Value)(ss:List ByteArray)(gs:List (List (List Int)))(hn:h_ B0 w nv ss)(hg:jy B0 w gv gs)(_hB:B0≤w.heap.size)(hsm:Small ss gs):
 Calls Tryz.prog 62 #[.agg #[nv,gv]] w fun e w'=>∃bN bG dD,e=.returned (.agg #[sl bN ss.length,sl bG gs.length])∧qX w' bN bG dD ss gs∧(∀b∈flat dD,w.heap.size≤b)∧Ext w w':=by
 have hn0:=hn;have hg0:=hg;obtain⟨an,cn,rfl,n1,n2,-⟩:=h_.open hn;obtain⟨ag,cg,rfl,g1,g2,-⟩:=hg.open;clear hn hg;have hsn:=hsm.names;have hsg:=hsm.groups;have st0:=aeA w (.slice an ss.length cn) (.slice ag gs.length cg);have z0:(((w.alloc (.cells #[.slice an ss.length cn,.slice ag gs.length cg] 42)).alloc (.cells #[g_,g_] 42)).alloc (.cells #[g_,g_] 42)).heap.size=w.heap.size+3:=aj;have Qp:Ext w (((w.alloc (.cells #[.slice an ss.length cn,.slice ag gs.length cg] 42)).alloc (.cells #[g_,g_] 42)).alloc (.cells #[g_,g_] 42)):=((ax.alloc _).alloc _).alloc _;have ST0:=hide st0;have Z0:=hide z0;clear st0 z0;go_enter Tryz.func62,Tryz.ntmps62
 go_upto_region 3 with(first|(at_make;go_must (refine gT _ rfl _ _ 22 rfl 9 _ 16 Tryz.underlying22 Sw rfl (ss.length+2) _ _ rfl rfl af af af af ?_);intro w1 hb1 x1 z1;rw[Z0.out]at hb1 z1;have s1:=(bH ST0).kept x1 (fun _ f=>f.elim);have c10:=s1.o0;have f10:=s1.f0))
 have hb1':=hb1.kept (bI w1 (w.heap.size+2) 0 (.slice (some ⟨w.heap.size+3,0,none⟩) (ss.length+2) (ss.length+2))) af;have s1':=s1.RL (.slice (some ⟨w.heap.size+3,0,none⟩) (ss.length+2) (ss.length+2));have N_:Ext w (w1.setCell ⟨w.heap.size+2,0,none⟩ (.slice (some ⟨w.heap.size+3,0,none⟩) (ss.length+2) (ss.length+2))):=(Qp.trans x1).setCell (.inr aj) _;have z1':(w1.setCell ⟨w.heap.size+2,0,none⟩ (.slice (some ⟨w.heap.size+3,0,none⟩) (ss.length+2) (ss.length+2))).heap.size=w.heap.size+4:=by rw[size_set,z1]
 clear hb1 s1 x1 z1 c10 f10;simp only[Nat.add_assoc,Nat.reduceAdd];generalize w1.setCell _ _=W1 at*;obtain⟨W2,nn,hrun,hb2,k2,z2⟩:=Bf B0 W1 22 9 Tryz.underlying22 (Qi Sw) (w.heap.size+3) (ss.length+2) (ss.length+2) _ hb1' an ss.length cn (ss.map Value.string) aj (hn0.kept N_ (fun _ f=>f.elim)) aj aj (fun v hv=>by obtain⟨_,_,rfl⟩:=List.mem_map.1 hv;rfl) 3;have s2:=s1'.kept k2 (fun i e=>by have e':i=w.heap.size+3:=e;omega);have qB:Ext w W2:=N_.then k2 (fun i hi e=>by have e':i=w.heap.size+3:=e;omega);rw[z1']at z2;simp only[aQ,List.drop_replicate,Nat.add_sub_cancel_left]at hb2;have hb2':bK W2 (w.heap.size+3) (ss.map Value.string++[.string ByteArray.empty,.string ByteArray.empty]) 9:=hb2;have c10:=s1'.b0;have c11:=s1'.o0;have c20:=s2.b0;have c21:=s2.o0;have f20:=s2.f0
 go_upto_region 5 with fail
 have hb3:=hb2'.kept (bI W2 (w.heap.size+2) 0 (sl (w.heap.size+3) ss.length)) af;have s3:=s2.RL (sl (w.heap.size+3) ss.length);have yu:Ext w (W2.setCell ⟨w.heap.size+2,0,none⟩ (sl (w.heap.size+3) ss.length)):=qB.setCell (.inr aj) _;have z3:(W2.setCell ⟨w.heap.size+2,0,none⟩ (sl (w.heap.size+3) ss.length)).heap.size=w.heap.size+4:=by rw[size_set,z2]
 clear hb2 hb2' s2 k2 z2 c10 c11 c20 c21 f20 hb1' s1' N_ z1' hrun;generalize W2.setCell _ _=W3 at*;have c30:=s3.b1
 go_upto_region 6 with(first|(at_make;go_must (refine gT _ rfl _ _ 40 rfl 51 _ 24 Tryz.underlying40 aeC rfl (gs.length+2) _ _ rfl rfl af af af af ?_);intro w4 hb4 x4 z4;rw[z3]at hb4 z4;have s4:=s3.kept x4 (fun _ f=>f.elim);have c41:=s4.o1;have f41:=s4.f1))
 have hlo:Lo (w4.setCell ⟨w.heap.size+2,1,none⟩ (.slice (some ⟨w.heap.size+4,0,none⟩) (gs.length+2) (gs.length+2))) w.heap.size (.slice an ss.length cn) (.slice ag gs.length cg) 0 [] ss gs:=by
  have kk:=bI w4 (w.heap.size+2) 1 (.slice (some ⟨w.heap.size+4,0,none⟩) (gs.length+2) (gs.length+2));refine⟨s4.ajx _,(hb3.kept x4 id).kept kk af,?_,rfl,fun j p g h=>by simp at h,by simp[flat],fun b h=>by simp[flat]at h⟩;have:=hb4.kept kk af;simpa[qy]using this
 have Mi:Ext w (w4.setCell ⟨w.heap.size+2,1,none⟩ (.slice (some ⟨w.heap.size+4,0,none⟩) (gs.length+2) (gs.length+2))):=(yu.trans x4).setCell (.inr aj) _;have z5:(w4.setCell ⟨w.heap.size+2,1,none⟩ (.slice (some ⟨w.heap.size+4,0,none⟩) (gs.length+2) (gs.length+2))).heap.size=w.heap.size+5:=by rw[size_set,z4]
 clear hb3 hb4 s3 s4 x4 z4 c41 f41 z3 yu c30;generalize w4.setCell _ _=W5 at*
 go_wp2_with fail
 go_loopw [4] (fun i wr=>∃(q:Nat)(dD:List (Nat×List Nat)),q≤gs.length∧i=.int .i64 q∧Lo wr w.heap.size (.slice an ss.length cn) (.slice ag gs.length cg) q dD ss gs∧Ext w wr∧w.heap.size+4<wr.heap.size) (fun i _=>gs.length-(intOf i).toNat)
 case atStart=>exact⟨0,[],aM _,rfl,hlo,Mi,af⟩
 case round=>
  clear hlo Mi z5;obtain⟨q,dD,hq,rfl,lo,xw,hsz⟩:=hrel;have b1:=lo.st.b1;by_cases kK:q<gs.length
  ·obtain⟨_,_,he,_,_,h3⟩:=hg0.open;cases he;obtain⟨b,off,rfl,hb0,hc⟩:=h3 af;obtain⟨ai,ci,SF,m_⟩:=hc q kK;rw[getD_at gs q _ kK]at SF m_;have hck:=xw.cell SF id;have Jp:=hide SF;have hgl:=hsm.group gs[q] (aJ kK);have hll:=hsm.list gs[q] (aJ kK);have HLO:=hide (fun(w1:World)(x:Ext wr w1)(bs:List Nat)=>lo.step kK x hsz bs);clear SF hc h3;generalize gs[q]=g at*
   go_upto_region 10 with(first|(at_make;go_must (refine gT _ rfl _ _ 51 rfl 46 _ 24 Tryz.underlying51 aeB rfl (g.length+2) _ _ rfl rfl af af af af ?_);intro w6 hb6 x6 z6))
   have DC:Li w6 wr.heap.size 0 [] g:=⟨by simpa[qx]using hb6,rfl,fun i b' xs h=>by simp at h,aj,fun b h=>by simp at h⟩
   clear hb6 hck b1
   go_wp2_with fail
   go_loopw [6] (fun i wr'=>∃(r:Nat)(bs:List Nat),r≤g.length∧i=.int .i64 r∧Li wr' wr.heap.size r bs g∧Ext wr wr'∧wr.heap.size<wr'.heap.size) (fun i _=>g.length-(intOf i).toNat)
   case atStart=>exact⟨0,[],aM _,rfl,DC,x6,af⟩
   case round=>
    clear DC x6 z6;obtain⟨r,bs,hr,rfl,li,xg,hsz2⟩:=hrel;have Wu:=xw.trans xg;have lo2:=lo.ext xg;have b1:=lo2.st.b1;have hck:=Wu.cell Jp.out id;by_cases hrl:r<g.length
    ·obtain⟨_,_,he,_,_,h3⟩:=m_.open;cases he;obtain⟨b4,II,rfl,hb4,hc⟩:=h3 af;obtain⟨al,cl,YF,hrd⟩:=hc r hrl;rw[getD_at g r _ hrl]at YF hrd;have hcl:=Wu.cell YF id;have hln:=hll g[r] (aJ hrl);have HST:=hide (fun(w1 w2:World)(x1:Ext wr w1)(z1:w1.heap.size=wr.heap.size+1)(k2:Kp (fun k=>k=wr.heap.size) w1 w2)(z2:w2.heap.size=w1.heap.size)(hl:LI w2 wr.heap.size g[r])=>li.step hrl hsz2 x1 z1 k2 z2 hl);clear hc h3;generalize g[r]=l at*
     go_upto_region 14 with(first|(at_make;go_must (refine gT _ rfl _ _ 46 rfl 3 _ 8 Tryz.underlying46 info3 rfl (l.length+2) _ _ rfl rfl af af af af ?_);intro w7 Uk x7 z7))
     have xw7:=Wu.trans x7;obtain⟨W8,nn8,hrun,SN,k8,z8⟩:=Bf B0 w7 46 3 Tryz.underlying46 (Qi info3) wr.heap.size (l.length+2) (l.length+2) _ Uk al l.length cl (l.map I) aj (hrd.kept xw7 (fun _ f=>f.elim)) aj aj (fun v hv=>by obtain⟨_,_,rfl⟩:=List.mem_map.1 hv;rfl) 3;simp only[aQ,List.drop_replicate,Nat.add_sub_cancel_left]at SN;have k78:Kp (fun k=>k=wr.heap.size) wr W8:=(Kp.cZ x7).trans k8;have hnew:=(bH HST) w7 W8 x7 z7 k8 z8 SN;have hcx:=k78.cell (li.cell hrl) (by simp;omega);have hfx:W8.frozen? ⟨_,r,none⟩=false:=(li.blk.kept k78 af).free r;have xw8:Ext w W8:=xw7.then k8 (fun i hi e=>by have e':i=wr.heap.size:=e;have:=Wu.size;omega);have b17:=x7.cell b1 id;have anG:=x7.cell hck id;have anH:=x7.cell hcl id;have b18:=k8.cell b17 (by have:=lo2.st.box.lt;simp;omega);have anI:=xw8.cell Jp.out id;have anJ:=xw8.cell YF id;clear Uk SN HST
     go_wp2_with fail
     refine⟨⟨r+1,_,af,by go_num,hnew,?_,?_⟩,by simp[intOf];omega⟩
     ·exact((xg.trans x7).then k8 (fun i hi e=>by have e':i=wr.heap.size:=e;have:=xg.size;omega)).setCell (.inr aj) _
     ·rw[size_set,z8,z7];omega
    ·obtain rfl:r=g.length:=af;have ct:=lo2.cell kK;have ft:wr.frozen? ⟨w.heap.size+4,q,none⟩=false:=lo2.top.free q;have o1:=lo2.st.o1;have D_:=li.ext (Kc wr);have hfin:=(bH HLO) wr.drew (xg.trans (Kc wr)) bs (by exact hsz2) D_
     go_wp2_with fail
     go_region
     all_goals
      go_wp2_with fail
      refine⟨⟨q+1,_,af,by go_num,hfin,?_,?_⟩,by simp[intOf];omega⟩
      ·exact(Wu.drew).setCell (.inr aj) _
      ·show _<(wr.setCell _ _).heap.size;rw[size_set];omega
  ·obtain rfl:q=gs.length:=af;have o1:=lo.st.o1;have o0:=lo.st.o0;have f1:=lo.st.f1;have r0:wr.cell? ⟨w.heap.size+1,0,none⟩=some g_:=lo.st.res.cell 0;have r1:wr.cell? ⟨w.heap.size+1,1,none⟩=some g_:=lo.st.res.cell 1;have rf0:wr.frozen? ⟨w.heap.size+1,0,none⟩=false:=lo.st.res.free 0;have rf1:wr.frozen? ⟨w.heap.size+1,1,none⟩=false:=lo.st.res.free 1;have HL:=hide lo.done
   go_wp2_with fail
   have k1:=bI wr (w.heap.size+2) 1 (sl (w.heap.size+4) gs.length);have k2:=bI (wr.setCell ⟨w.heap.size+2,1,none⟩ (sl (w.heap.size+4) gs.length)) (w.heap.size+1) 0 (sl (w.heap.size+3) ss.length);have k3:=bI ((wr.setCell ⟨w.heap.size+2,1,none⟩ (sl (w.heap.size+4) gs.length)).setCell ⟨w.heap.size+1,0,none⟩ (sl (w.heap.size+3) ss.length)) (w.heap.size+1) 1 (sl (w.heap.size+4) gs.length);have hp:∀p∈dD,w.heap.size+4<p.1:=fun p hp=>by
    obtain⟨j,hj⟩:=List.getElem?_of_mem hp;have hjl:=(aL.1 hj).1;rw[lo.len]at hjl;exact(lo.group j p _ hj (ay hjl)).2
   have aft:=(((bH HL).kept k1 af af (fun p hp'=>by have:=hp p hp';omega) (fun b hb=>by have:=(lo.fl b hb).1;omega)).kept k2 af af (fun p hp'=>by have:=hp p hp';omega) (fun b hb=>by have:=(lo.fl b hb).1;omega)).kept k3 af af (fun p hp'=>by have:=hp p hp';omega) (fun b hb=>by have:=(lo.fl b hb).1;omega);have hres:=((lo.st.res.kept k1 af).set 0 (sl (w.heap.size+3) ss.length)).set 1 (sl (w.heap.size+4) gs.length);have hxt:Ext w (((wr.setCell ⟨w.heap.size+2,1,none⟩ (sl (w.heap.size+4) gs.length)).setCell ⟨w.heap.size+1,0,none⟩ (sl (w.heap.size+3) ss.length)).setCell ⟨w.heap.size+1,1,none⟩ (sl (w.heap.size+4) gs.length)):=((xw.setCell (.inr aj) _).setCell (.inr aj) _).setCell (.inr aj) _;clear k1 k2 k3;generalize((wr.setCell _ _).setCell _ _).setCell _ _=WF at*;have q0:WF.cell? ⟨w.heap.size+1,0,none⟩=some (sl (w.heap.size+3) ss.length):=hres.cell 0;have q1:WF.cell? ⟨w.heap.size+1,1,none⟩=some (sl (w.heap.size+4) gs.length):=hres.cell 1;exact bodyPost_ret (v:=.agg #[sl (w.heap.size+3) ss.length,sl (w.heap.size+4) gs.length]) (by simp[results,Tryz.results62,go_sem,q0,q1]) rfl ⟨_,_,dD,rfl,aft,fun b hb=>by have:=(lo.fl b hb).1;omega,hxt⟩
theorem CQ (w:World):Ext w w.drew:=ax.drew
theorem IK (dD:List (Nat×List Nat))(q:Nat)(h:q<dD.length):flat (dD.take (q+1))=flat (dD.take q)++dD[q].2:=by
 unfold flat;rw[aF h,List.flatMap_append];simp only[List.flatMap_cons,List.flatMap_nil,List.append_nil]
theorem SG (dD:List (Nat×List Nat))(q:Nat)(h:q<dD.length):flat dD=flat (dD.take q)++(dD[q].2++flat (dD.drop (q+1))):=by
 have e:dD=dD.take q++(dD[q]::dD.drop (q+1)):=by rw[←aV h,List.take_append_drop]
 conv=>lhs;rw[e]
 unfold flat;rw[List.flatMap_append,List.flatMap_cons]
theorem Wv (dD:List (Nat×List Nat))(hn:(flat dD).Nodup)(q:Nat)(h:q<dD.length):(∀b∈dD[q].2,b∉flat (dD.take q))∧dD[q].2.Nodup:=by
 rw[SG dD q h,List.nodup_append]at hn;obtain⟨_,h2,h3⟩:=hn;rw[List.nodup_append]at h2;exact⟨fun b hb hb'=>h3 b hb' b (aI.2 (.inl hb)) rfl,h2.1⟩
theorem Ww (l:List Nat)(hn:l.Nodup)(r:Nat)(h:r<l.length):l[r]∉l.take r:=by
 have e:l=l.take r++(l[r]::l.drop (r+1)):=by rw[←aV h,List.take_append_drop]
 rw[e,List.nodup_append]at hn;intro hm;exact hn.2.2 _ hm l[r] List.mem_cons_self rfl
theorem Av (dD:List (Nat×List Nat))(q:Nat):∀b∈flat (dD.take q),b∈flat dD:=by
 intro b hb;obtain⟨p,hp,hbp⟩:=List.mem_flatMap.1 hb;exact List.mem_flatMap.2 ⟨p,List.mem_of_mem_take hp,hbp⟩
theorem A7 (l:List Nat)(r k:Nat)(h:k∈l.take r):k∈l.take (r+1):=by
 have e:l.take r=(l.take (r+1)).take r:=by rw[List.take_take,Nat.min_eq_left af]
 rw[e]at h;exact List.mem_of_mem_take h
theorem qX.aaU {w:World}{bN bG:Nat}{dD:List (Nat×List Nat)}{ss:List ByteArray}{gs:List (List (List Int))}(h:qX w bN bG dD ss gs){b:Nat}{cs:List Value}{e:TypeId}(hb:bK w b cs e)(he:e≠3):b∉flat dD:=by
 intro hm;obtain⟨p,hp,hbp⟩:=List.mem_flatMap.1 hm;obtain⟨j,hj⟩:=List.getElem?_of_mem hp;have hjl:=(aL.1 hj).1;rw[h.len]at hjl;have hG:=h.group j p _ hj (ay hjl);obtain⟨i,hi⟩:=List.getElem?_of_mem hbp;have hil:=(aL.1 hi).1;rw[hG.len]at hil;have hL:=hG.each i b _ hi (ay hil);exact hb.ne hL he rfl
theorem Wx (B0:Nat)(w:World)(nv gv:Value)(ss:List ByteArray)(gs:List (List (List Int)))(hn:h_ B0 w nv ss)(hg:jy B0 w gv gs)(hsm:Small ss gs)(bN bG:Nat)(dD:List (Nat×List Nat))(hl:qX w bN bG dD ss gs)(hfl:∀b∈flat dD,B0≤b):
 Calls Tryz.prog 63 #[.agg #[sl bN ss.length,sl bG gs.length],.agg #[nv,gv]] w fun e w'=>e=.returned (.bool true)∧Kp (fun k=>k∈flat dD) w w':=by
 have hn0:=hn;have hg0:=hg;obtain⟨an,cn,rfl,n1,n2,-⟩:=h_.open hn;obtain⟨ag,cg,rfl,g1,g2,-⟩:=hg.open;clear hn hg;have hsn:=hsm.names;have hsg:=hsm.groups;have hbx:=bK.bO w [sl bN ss.length,sl bG gs.length] 42;have MG:=bK.bO (w.alloc (.cells #[sl bN ss.length,sl bG gs.length] 42)) [.slice an ss.length cn,.slice ag gs.length cg] 42;simp only[World.size_alloc]at MG;have Qp:Ext w ((w.alloc (.cells #[sl bN ss.length,sl bG gs.length] 42)).alloc (.cells #[.slice an ss.length cn,.slice ag gs.length cg] 42)):=(ax.alloc _).alloc _;have aeT:=hbx.kept ((Kp.refl (fun _=>False) _).alloc (.cells #[.slice an ss.length cn,.slice ag gs.length cg] 42)) id;have ee1:((ss.length:Int)==(ss.length:Int))=true:=aj;have ee2:((gs.length:Int)==(gs.length:Int))=true:=aj;clear hbx;have HBX:=hide aeT;have Ox:=hide MG;clear aeT MG;go_enter Tryz.func63,Tryz.ntmps63
 go_wp2_with fail
 generalize hW:(w.alloc _).alloc _=W0 at*;clear hW;have l0:=hl.ext Qp;have d0:W0.cell? ⟨w.heap.size,0,none⟩=some (sl bN ss.length):=HBX.out.cell 0;have d1:W0.cell? ⟨w.heap.size,1,none⟩=some (sl bG gs.length):=HBX.out.cell 1;have o0:W0.cell? ⟨w.heap.size+1,0,none⟩=some (.slice an ss.length cn):=Ox.out.cell 0;have o1:W0.cell? ⟨w.heap.size+1,1,none⟩=some (.slice ag gs.length cg):=Ox.out.cell 1
 go_loop [5,7] (fun t i=>∃k:Nat,k≤ss.length+2∧i=.int .i64 k∧t=.bool true) (fun _ i=>ss.length+2-(intOf i).toNat)
 case atStart=>exact⟨0,aM _,rfl,rfl⟩
 case round=>
  obtain⟨k,hk,rfl,rfl⟩:=hrel;by_cases hkl:k<ss.length+2
  ·have hck:=l0.names.cell k;by_cases hkn:k<ss.length
   ·rw[aS (by simpa using hkn),aN,ay hkn]at hck;simp only[Option.map_some]at hck;obtain⟨_,_,he,_,_,h3⟩:=h_.open (hn0.kept Qp (fun _ f=>f.elim));cases he;obtain⟨b',off,rfl,hb',hc⟩:=h3 af;have hcx:=hc k hkn;rw[getD_at ss k _ hkn]at hcx;clear hc h3;generalize ss[k]=y at*;have ey:(y.toList==y.toList)=true:=aj
    go_wp2_with fail
    refine⟨⟨k+1,af,by go_num,rfl⟩,by simp[intOf];omega⟩
   ·rw[aP (by simp;omega)]at hck;have aeD:W0.cell? ⟨bN,k,none⟩=some (.string ByteArray.empty):=by
     rw[hck,aQ];have:k-ss.length=0∨k-ss.length=1:=af;rcases this with e|e<;>simp[e]
    have ey:(ByteArray.empty.toList==({data:=#[]}:ByteArray).toList)=true:=by rw[ByteArray.toList_eq,ByteArray.toList_eq];rfl
    clear hck
    go_wp2_with fail
    refine⟨⟨k+1,af,by go_num,rfl⟩,by simp[intOf];omega⟩
  ·clear d0
   go_wp2_with fail
   go_loopw [5,10] (fun t i wr=>∃q:Nat,q≤gs.length+2∧i=.int .i64 q∧t=.bool true∧Kp (fun k=>k∈flat (dD.take q)) W0 wr) (fun _ i _=>gs.length+2-(intOf i).toNat)
   case atStart=>exact⟨0,aM _,rfl,rfl,Kp.refl _ _⟩
   case round=>
    clear o0 o1 d1;obtain⟨q,hq,rfl,rfl,kq⟩:=hrel;have nf:∀{b:Nat}{cs:List Value}{e:TypeId},bK W0 b cs e→e≠3→b∉flat (dD.take q):=fun hb he hm=>l0.aaU hb he (Av dD q _ hm)
    have o1:wr.cell? ⟨w.heap.size+1,1,none⟩=some (.slice ag gs.length cg):=(Ox.out.kept kq (nf Ox.out (by decide))).cell 1;have top:=l0.top.kept kq (nf l0.top (by decide));by_cases kK:q<gs.length+2
    ·by_cases hqg:q<gs.length
     ·have AP:q<dD.length:=by rw[l0.len];exact hqg
      have hG:=l0.group q dD[q] gs[q] (ay AP) (ay hqg);have Jt:=top.cell q;rw[aS (by rw[ug _ _ l0.len];omega)]at Jt;have aeU:wr.cell? ⟨bG,q,none⟩=some (sl dD[q].1 gs[q].length):=by
       rw[Jt];unfold qy;rw[List.getElem?_zipWith,ay AP,ay hqg]
      have hdj:=Wv dD l0.nodup q AP;have hft:=IK dD q AP;have hB:∀i,i∈flat (dD.take (q+1))→B0≤i:=fun i h=>hfl i (Av _ _ i h)
      obtain⟨_,_,he,_,_,h3⟩:=(hg0.kept Qp (fun _ f=>f.elim)).open;cases he;obtain⟨b,off,rfl,hb0,hc⟩:=h3 af;obtain⟨ai,ci,xG,aeV⟩:=hc q hqg;rw[getD_at gs q _ hqg]at xG aeV;have hbf:∀i,i∈flat (dD.take q)→i≠b:=fun i h e=>by have:=hfl i (Av _ _ i h);omega
      have hck:=kq.cell xG (fun h=>hbf _ h rfl);have hgl:=hsm.group gs[q] (aJ hqg);have hll:=hsm.list gs[q] (aJ hqg);rw[hft]at hB;have HFT:=hide hft;clear hc h3 Jt hft;generalize dD[q]=p at*;generalize gs[q]=g at*;have hw:IntKind.i64.wrap ((g.length:Int)+2)=(g.length:Int)+2:=by simp[IntKind.wrap,IntKind.bits,IntKind.signed];omega
      have e1:((g.length:Int)==(g.length:Int))=true:=aj;have e2:(((g.length+2:Nat):Int)==(g.length:Int)+2)=true:=aj;have t1:decide ((q:Int)<(gs.length:Int)+2)=true:=by rw[decide_eq_true_eq];omega
      have t2:decide ((gs.length:Int)≤(q:Int))=false:=by rw[decide_eq_false_iff_not];omega
      have t3:decide (gs.length≤q)=false:=by rw[decide_eq_false_iff_not];omega
      go_upto_region 16 with fail
      go_quiet (fail)
      go_upto_region 19 with fail
      go_quiet (fail)
      go_wp2_with fail
      have kq2:∀n m,Kp (fun k=>k∈flat (dD.take q)∨k∈p.2.take 0) W0 ((wr.drewN n).drewN m):=fun n m=>(((kq.drewN n).drewN m)).mono (fun k _ h=>.inl h)
      clear o1 top aeU hck kq;have nf2:∀{b:Nat}{cs:List Value}{e:TypeId},bK W0 b cs e→e≠3→b∉p.2:=fun hb he hm=>by
       obtain⟨i,hi⟩:=List.getElem?_of_mem hm;have hil:=(aL.1 hi).1;rw[hG.len]at hil;exact hb.ne (hG.each i _ _ hi (ay hil)) he rfl
      have NF:Hid (∀{b:Nat}{cs:List Value}{e:TypeId},bK W0 b cs e→e≠3→∀r,¬(b∈flat (dD.take q)∨b∈p.2.take r)):=fun hb he r h=>by
       rcases h with h|h
       ·exact nf hb he h
       ·exact nf2 hb he (List.mem_of_mem_take h)
      clear nf nf2;go_loopw [5,12] (fun t i wr'=>∃r:Nat,r≤g.length+2∧i=.int .i64 r∧t=.bool true∧Kp (fun k=>k∈flat (dD.take q)∨k∈p.2.take r) W0 wr') (fun _ i _=>g.length+2-(intOf i).toNat)
      case atStart=>exact⟨0,aM _,rfl,rfl,kq2 _ _⟩
      case round=>
       clear kq2;obtain⟨r,hr,rfl,rfl,kr⟩:=hrel;have o1:wr.cell? ⟨w.heap.size+1,1,none⟩=some (.slice (some ⟨b,off,none⟩) gs.length cg):=(Ox.out.kept kr (NF.out Ox.out (by decide) r)).cell 1;have aeW:=hG.blk.kept kr (NF.out hG.blk (by decide) r);have hSB:∀i,(i∈flat (dD.take q)∨i∈p.2.take r)→B0≤i:=fun i h=>hB i (aI.2 (h.imp id List.mem_of_mem_take))
       have hck:=kr.cell xG (fun h=>by have:=hSB _ h;simp at this;omega);by_cases hrl:r<g.length+2
       ·by_cases hrg:r<g.length
        ·have hrb:r<p.2.length:=by rw[hG.len];exact hrg
         have ZW:=hG.each r p.2[r] g[r] (ay hrb) (ay hrg);have htr:=aeW.cell r;rw[aS (by rw[uf _ _ hG.len];omega)]at htr;have aeY:wr.cell? ⟨p.1,r,none⟩=some (sl p.2[r] g[r].length):=by
          rw[htr];unfold qx;rw[List.getElem?_zipWith,ay hrb,ay hrg]
         have hnotin:¬(p.2[r]∈flat (dD.take q)∨p.2[r]∈p.2.take r):=by
          rintro(h|h)
          ·exact hdj.1 _ (aJ hrb) h
          ·exact Ww p.2 hdj.2 r hrb h
         have aeZ:=bK.kept ZW kr hnotin;have ZQ:B0≤p.2[r]:=hB _ (aI.2 (.inr (aJ hrb)));obtain⟨_,_,he,_,_,h3⟩:=aeV.open;cases he;obtain⟨b4,II,rfl,hb4,hc4⟩:=h3 af;obtain⟨al,cl,xH,Fe⟩:=hc4 r hrg;rw[getD_at g r _ hrg]at xH Fe;have hcl:=kr.cell xH (fun h=>by have:=hSB _ h;simp at this;omega);have hrd:=Fe.kept kr hSB;have hln:=hll g[r] (aJ hrg);have hmr:∀k,k=p.2[r]→k∈p.2.take (r+1):=fun k e=>by
          rw[aF hrb,e];exact aI.2 (.inr aj)
         have HMR:=hide hmr;have hne1:p.1≠p.2[r]:=hG.blk.ne ZW (by decide);have hne2:w.heap.size+1≠p.2[r]:=Ox.out.ne ZW (by decide);clear htr ZW hnotin xH Fe hc4 h3 hmr;generalize p.2[r]=br at*;generalize g[r]=xs at*;have ae0:Calls Tryz.prog 91 #[sl br xs.length,.slice al xs.length cl] wr.drew fun e w'=>e=.returned (.bool true)∧Kp (fun k=>k=br) wr.drew w':=
          V6 B0 wr.drew br _ xs (bK.kept aeZ (CQ wr) id) (hrd.kept (CQ wr) (fun _ f=>f.elim)) ZQ hln
         have HSA:=hide ae0;clear ae0 aeZ hrd
         go_upto_region 25 with fail
         go_region_held (fun u=>u.cell? ⟨p.1,r,none⟩=some (sl br xs.length)∧u.cell? ⟨w.heap.size+1,1,none⟩=some (.slice (some ⟨b,off,none⟩) gs.length cg)∧u.cell? ⟨b,off+q,none⟩=some (.slice (some ⟨b4,II,none⟩) g.length ci)∧u.cell? ⟨b4,II+r,none⟩=some (.slice al xs.length cl)) (go_keep)
          (first|(go_at_call 91;go_must (refine(bH HSA).mono ?_);rintro e w5 ⟨rfl,k5⟩;have c51:=k5.cell (a:=⟨p.1,r,none⟩) (by exact aeY) (by exact hne1);have c52:=k5.cell (a:=⟨w.heap.size+1,1,none⟩) (by exact o1) (by exact hne2);have c53:=k5.cell (a:=⟨b,off+q,none⟩) (by exact hck) (by show¬b=br;omega);have c54:=k5.cell (a:=⟨b4,II+r,none⟩) (by exact hcl) (by show¬b4=br;omega)))
         go_wp2_with fail
         have ajG:Kp (fun k=>k∈flat (dD.take q)∨k∈p.2.take (r+1)) W0 w5:=(kr.drew.mono (fun k _ h=>h.imp id (A7 _ _ _))).then k5 (fun i hi e=>.inr (HMR.out i e));exact⟨⟨r+1,af,by go_num,rfl,ajG⟩,by simp[intOf];omega⟩
        ·have htr:=aeW.cell r;rw[aP (by rw[uf _ _ hG.len];omega),uf _ _ hG.len]at htr;have aeY:wr.cell? ⟨p.1,r,none⟩=some g_:=by
          rw[htr];have:r-g.length=0∨r-g.length=1:=af;rcases this with e|e<;>simp[e]
         clear htr;have hnil:=Ht 46 _ Tryz.underlying46;have kr':Kp (fun k=>k∈flat (dD.take q)∨k∈p.2.take (r+1)) W0 wr:=kr.mono (fun k _ h=>h.imp id (A7 _ _ _))
         go_wp2_with fail
         refine⟨⟨r+1,af,by go_num,rfl,kr'⟩,by simp[intOf];omega⟩
       ·go_wp2_with fail
        refine⟨⟨q+1,af,by go_num,rfl,kr.mono (fun k _ h=>?_)⟩,by simp[intOf];omega⟩;rw[HFT.out];exact aI.2 (h.imp id List.mem_of_mem_take)
     ·have Jt:=top.cell q;rw[aP (by rw[ug _ _ l0.len];omega),ug _ _ l0.len]at Jt;have aeU:wr.cell? ⟨bG,q,none⟩=some g_:=by
       rw[Jt];have:q-gs.length=0∨q-gs.length=1:=af;rcases this with e|e<;>simp[e]
      clear Jt;have hnil:=Ht 51 _ Tryz.underlying51;have kq':Kp (fun k=>k∈flat (dD.take (q+1))) W0 wr:=kq.mono (fun k _ h=>by
       rw[List.take_of_length_le (by rw[l0.len];omega)]at*;exact h)
      go_wp2_with fail
      refine⟨⟨q+1,af,by go_num,rfl,kq'⟩,by simp[intOf];omega⟩
    ·go_wp2_with fail
     go_ret;refine⟨rfl,(Kp.cZ Qp).trans (kq.mono (fun k _ h=>Av dD q k h))⟩
abbrev Wy :=List ByteArray×List (List (List Int))
def YG (B:Nat)(w:World)(v:Value)(ts:List Wy):Prop:=
 ∃ao cap,v=.slice ao ts.length cap∧ts.length≤cap∧cap≤17592186044416∧(0<ts.length→∃b off,ao=some ⟨b,off,none⟩∧b<B∧
  ∀j(hj:j<ts.length),∃nv gv,w.cell? ⟨b,off+j*2,none⟩=some nv∧w.cell? ⟨b,off+j*2+1,none⟩=some gv∧h_ B w nv ts[j].1∧jy B w gv ts[j].2∧Small ts[j].1 ts[j].2)
theorem SH (w:World)(v:Value)(ts:List Wy)(hr:YG w.heap.size w v ts):
 Calls Tryz.prog 31 #[v] w fun e w'=>e=.returned (.bool true)∧Ext w w':=by
 obtain⟨ao,cap,rfl,c1,c2,c3⟩:=hr;go_enter Tryz.func31,Tryz.ntmps31
 go_wp2_with fail
 refine(VZ _).mono ?_;rintro e w0 ⟨rfl,x0⟩
 go_wp2_with fail
 go_loopw [3,4] (fun t i wr=>∃k:Nat,k≤ts.length∧i=.int .i64 k∧t=.bool true∧Ext w wr) (fun _ i _=>ts.length-(intOf i).toNat)
 case atStart=>exact⟨0,aM _,rfl,rfl,x0⟩
 case round=>
  clear x0;obtain⟨k,hk,rfl,rfl,xk⟩:=hrel;by_cases hkl:k<ts.length
  ·obtain⟨b,off,rfl,hb,hc⟩:=c3 af;obtain⟨nv,gv,d0,d1,rS,rG,hsm⟩:=hc k hkl;clear hc;generalize hss:ts[k].1=ss at*;generalize hgs:ts[k].2=gs at*;clear hss hgs;have e0:=xk.cell d0 id;have e1:=xk.cell d1 id;have rS':=rS.kept xk (fun _ f=>f.elim);have rG':=rG.kept xk (fun _ f=>f.elim);obtain⟨an,cn,rfl,-⟩:=h_.open rS;obtain⟨ag,cg,rfl,-⟩:=rG.open
   go_wp2_with fail
   refine(YE w.heap.size _ _ _ ss gs rS' rG' xk.size hsm).mono ?_;rintro e w1 ⟨bN,bG,dD,rfl,hl,hfl,x1⟩
   go_wp2_with fail
   have xa:Ext w1 (w1.alloc (.cells #[sl bN ss.length,sl bG gs.length] 42)):=ax.alloc _;have hxb:=bK.bO w1 [sl bN ss.length,sl bG gs.length] 42;have l2:=hl.ext xa;have hz:=x1.size;clear hl;generalize w1.alloc _=w2 at*;refine(J5 w2.heap.size w2 _ _ ss gs (l2.rdS hsm) (l2.afq hsm) (aK _)).mono ?_;rintro e w3 ⟨rfl,x3⟩;generalize hrr:Pl.write (ss.map bytesOf) gs=rr;have HRR:=hide hrr;clear hrr;have PI:=x1.trans (xa.trans x3);have Wz:=xk.trans PI;have l3:=l2.ext x3;have ae1:=hxb.kept x3 id;have q0:w3.cell? ⟨w1.heap.size,0,none⟩=some (sl bN ss.length):=ae1.cell 0;have q1:w3.cell? ⟨w1.heap.size,1,none⟩=some (sl bG gs.length):=ae1.cell 1;have p0:=Wz.cell d0 id;have p1:=Wz.cell d1 id;have ae2:∀b∈flat dD,w.heap.size≤b:=fun b hb=>by have:=hfl b hb;have:=xk.size;omega
   have hst:Calls Tryz.prog 63 #[.agg #[sl bN ss.length,sl bG gs.length],.agg #[.slice an ss.length cn,.slice ag gs.length cg]] w3.drew fun e w'=>e=.returned (.bool true)∧Kp (fun k=>k∈flat dD) w3.drew w':=
    Wx w.heap.size w3.drew _ _ ss gs (rS.kept (Wz.drew) (fun _ f=>f.elim)) (rG.kept (Wz.drew) (fun _ f=>f.elim)) hsm bN bG dD (l3.ext (CQ w3)) ae2
   have HST:=hide hst;clear hst e0 e1 rS' rG' l2 l3 hxb
   go_upto_region 7 with fail
   go_region_with (go_at_call 63;go_must (refine(bH HST).mono ?_);rintro e w4 ⟨rfl,k4⟩)
   all_goals
    have WC:Ext w w4:=(Wz.drew).then k4 (fun i hi e=>by have:=ae2 i e;omega);have p04:=WC.cell d0 id;have p14:=WC.cell d1 id;have hwr:=Cx w.heap.size w4 _ _ ss gs (rS.kept WC (fun _ f=>f.elim)) (rG.kept WC (fun _ f=>f.elim));rw[HRR.out]at hwr;have HWR:=hide hwr;clear hwr;have es:(({data:=rr.1.toArray}:ByteArray).toList==({data:=rr.1.toArray}:ByteArray).toList)=true:=aj;have ee:(rr.2==rr.2)=true:=aj;have es2:(rr.1==rr.1)=true:=aj
    go_wp2_with fail
    refine(bH HWR).mono ?_;rintro e w5 ⟨rfl,x5⟩
    go_wp2_with fail
    exact⟨⟨k+1,af,by go_num,rfl,WC.trans x5⟩,by simp[intOf];omega⟩
  ·go_wp2_with fail
   go_ret;exact⟨rfl,xk⟩
section
open Go.ChangeShapes Go.WideShapes Go.Deep
section
variable{H:Type}{enc:TypeId×Value→H}{W:World}
theorem WG {fuel:Nat}{v:Value}{d:DataW H}{pl:List MemPlace}(h:DataW.trod enc Tryz.prog W 0 (fun _=>true) true fuel 78 [v]=some (d,pl))(hf:iG 78 d):∃ts:List Wy,YG W.heap.size W v ts:=by
 rcases open_slice Tryz.underlying78 h with⟨hcs,_⟩|⟨a,len,cap,m,n,D,Pl,hcs,_,hl,_,hm,hx,he⟩
 ·simp only[List.cons.injEq,and_true]at hcs;subst hcs;exact⟨[],none,0,rfl,aK _,af,fun h=>absurd h aj⟩
 ·simp only[List.cons.injEq,and_true]at hcs;subst hcs;simp only[if_true]at hm;rw[hm]at hx he;clear hm;simp only[Prod.mk.injEq]at hx;obtain⟨rfl,_⟩:=hx;have hsz:=hf.slice Tryz.underlying78;simp only[aQ,List.length_range,Z5,vU]at hsz;have hone:∀i∈List.range len,∃tb:Wy,∃nv gv,W.cell? (a.add (i*2))=some nv∧W.cell? ((a.add (i*2)).add 1)=some gv∧h_ W.heap.size W nv tb.1∧jy W.heap.size W gv tb.2∧Small tb.1 tb.2:=fun i hi=>by
   rw[List.mem_range]at hi;obtain⟨cs,hc,ht⟩:=he i af;rw[Z8]at hc;have hfit:=hsz.2 _ (List.mem_map.2 ⟨i,List.mem_range.2 hi,rfl⟩);obtain⟨_,hcl,hcc⟩:=World.cells?_some hc;obtain⟨y0,y1,k,hy,_,h0,h1⟩:=trod_struct2 Tryz.underlying42 ht
   match cs,hcl with
   |[nv,gv],_=>
    simp only[cells24,Pg]at h0 h1;simp only[List.drop_zero,List.take_succ_cons,List.take_zero,List.drop_succ_cons]at h0 h1;simp only[Prod.mk.injEq]at hy;rw[hy.1]at hfit;have hf0:iG 22 y0.1:=fun n hn=>hfit n (by
     simp only[DataW.weights,Tryz.underlying42];exact DataW.weights_mem_each (j:=0) rfl rfl n hn)
    have hf1:iG 40 y1.1:=fun n hn=>hfit n (by
     simp only[DataW.weights,Tryz.underlying42];exact DataW.weights_mem_each (j:=1) rfl rfl n hn)
    obtain⟨ss,r0,s0⟩:=Ep (d:=y0.1) (pl:=y0.2) h0 hf0;obtain⟨gs,r1,s1,s2⟩:=Fj (d:=y1.1) (pl:=y1.2) h1 hf1;refine⟨(ss,gs),nv,gv,?_,?_,r0,r1,⟨s0,s1,fun g hg=>(s2 g hg).1,fun g hg=>(s2 g hg).2⟩⟩
    ·have:=hcc 0 af;simpa[Addr.add]using this
    ·simpa using hcc 1 af
  obtain⟨ts,htl,hq⟩:=uq _ (List.range len) hone;rw[List.length_range]at htl;refine⟨ts,some a,cap,by rw[←htl],af,af,fun hp=>?_⟩;have hget:∀j(hj:j<ts.length),∃nv gv,W.cell? (a.add (j*2))=some nv∧W.cell? ((a.add (j*2)).add 1)=some gv∧h_ W.heap.size W nv ts[j].1∧jy W.heap.size W gv ts[j].2∧Small ts[j].1 ts[j].2:=fun j hj=>
   hq j j ts[j] (by rw[List.getElem?_range af]) (ay hj)
  obtain⟨nv0,gv0,c0,_⟩:=hget 0 hp;obtain⟨b,off,spot⟩:=a;have hspot:spot=none:=by
   have:=World.cell?_spot c0;simpa[Addr.add]using this
  subst hspot;refine⟨b,off,rfl,?_,fun j hj=>?_⟩
  ·have:=World.block_lt_of_cell? _ _ c0;simpa[Addr.add]using this
  ·obtain⟨nv,gv,c1,c2,r⟩:=hget j hj;rw[Addr.add_lit]at c1 c2;rw[Addr.add_lit]at c2;exact⟨nv,gv,c1,c2,r⟩
end
end
end Go.Proofs.YthicgffppmbamaaGreat
