import Derived.Deep.RegionHeld
import Derived.Test.YthicgffppmbamaaGreatP6
import Derived.Test.YthicgffppmbamaaGreatP12
set_option maxRecDepth 100000
set_option maxHeartbeats 16000000
namespace Go.Proofs.YthicgffppmbamaaGreat
open Go.RowKit
theorem Ob (B0:Nat)(w:World)(nv gv:Value)(ss:List ByteArray)(gs:List (List (List Int)))(hn:h_ B0 w nv ss)(hg:jy B0 w gv gs):
 Calls Tryz.prog 71 #[.agg #[nv,gv]] w fun e w'=>e=.returned (.bool (Pl.lC (ss.map bytesOf) gs))∧Ext w w':=by
 have hiff:=Pl.uy (ss.map bytesOf) gs;rw[Pl.fD,aQ]at hiff;have hn0:=hn;have hg0:=hg;obtain⟨an,cn,rfl,n1,n2,-⟩:=h_.open hn;obtain⟨ag,cg,rfl,g1,g2,-⟩:=hg.open;clear hn hg;generalize hN:ss.length=N at*;generalize hG:gs.length=G at*;have hext:Ext w (w.alloc (.cells #[.slice an N cn,.slice ag G cg] 42)):=ax.alloc _;have hp0:(w.alloc (.cells #[.slice an N cn,.slice ag G cg] 42)).cell? ⟨w.heap.size,0,none⟩=some (.slice an N cn):=World.cell?_alloc_new w _ _ 0;have hp1:(w.alloc (.cells #[.slice an N cn,.slice ag G cg] 42)).cell? ⟨w.heap.size,1,none⟩=some (.slice ag G cg):=World.cell?_alloc_new w _ _ 1;generalize hb:Pl.lC (ss.map bytesOf) gs=bb at*;have HI:=hide hiff;have J8:=hide hp0;have yD:=hide hp1;have HN:=hide hN;have HG:=hide hG;clear hb hiff hp0 hp1 hN hG;by_cases h1:N<1
 ·have e:bb=false:=by rw[←Bool.not_eq_true,HI.out];omega
  rw[e];go_enter Tryz.func71,Tryz.ntmps71
  go_wp2_with fail
  go_ret;exact⟨rfl,hext⟩
 by_cases h4:4<N
 ·have e:bb=false:=by rw[←Bool.not_eq_true,HI.out];omega
  rw[e];go_enter Tryz.func71,Tryz.ntmps71
  go_wp2_with fail
  go_ret;exact⟨rfl,hext⟩
 by_cases h6:6<G
 ·have e:bb=false:=by rw[←Bool.not_eq_true,HI.out];omega
  rw[e];go_enter Tryz.func71,Tryz.ntmps71
  go_wp2_with fail
  go_ret;exact⟨rfl,hext⟩
 go_enter Tryz.func71,Tryz.ntmps71
 go_wp2_with fail
 generalize w.alloc (.cells #[.slice an N cn,.slice ag G cg] 42)=W0 at*;go_loopw [3] (fun i wr=>∃k:Nat,k≤N∧i=.int .i64 k∧Hid (Pl.qN (ss.map bytesOf) k)∧Ext W0 wr) (fun i _=>N-(intOf i).toNat)
 case atStart=>exact⟨0,aM _,rfl,Pl.Ba _,Kp.refl _ _⟩
 case round=>
  obtain⟨k,hk,rfl,hall,x1⟩:=hrel;have b0:=x1.cell J8.out id;have b1:=x1.cell yD.out id;by_cases hkl:k<N
  ·obtain⟨_,_,he,_,_,h3⟩:=h_.open (hn0.kept (hext.trans x1) (fun _ f=>f.elim));rw[HN.out]at he h3;cases he;obtain⟨b,off,rfl,hb0,hc⟩:=h3 af;have hck:=hc k hkl;have hkl':k<ss.length:=by rw[HN.out];exact hkl
   rw[getD_at ss k _ hkl']at hck;have hstep:=Pl.Bd (ss.map bytesOf) k (by rw[aQ];exact hkl');rw[List.getElem_map,Pl.nQ,gX]at hstep;have HS:=hide hstep;clear hstep h3 hc;generalize hy:ss[k]=y at*;have HY:=hide hy;clear hy;by_cases hy1:y.size<1
   ·go_wp2_with fail
    go_ret;have e:bb=false:=by
     rw[←Bool.not_eq_true,HI.out];rintro⟨⟨_,_,h⟩,_⟩;have:=(HS.out.1 (Pl.xJ _ (k+1) (N-(k+1)) (by rw[show k+1+(N-(k+1))=N from af];exact h))).2.1;omega
    rw[e];exact⟨rfl,hext.trans x1⟩
   by_cases hy8:8<y.size
   ·go_wp2_with fail
    go_ret;have e:bb=false:=by
     rw[←Bool.not_eq_true,HI.out];rintro⟨⟨_,_,h⟩,_⟩;have:=(HS.out.1 (Pl.xJ _ (k+1) (N-(k+1)) (by rw[show k+1+(N-(k+1))=N from af];exact h))).2.1;omega
    rw[e];exact⟨rfl,hext.trans x1⟩
   go_wp2_with fail
   go_loopw [4] (fun i wr'=>∃j:Nat,j≤k∧i=.int .i64 j∧Hid (bytesOf y∉(ss.map bytesOf).take j)∧Ext W0 wr') (fun i _=>k-(intOf i).toNat)
   case atStart=>exact⟨0,aM _,rfl,by show _∉_;simp,x1⟩
   case round=>
    clear hck b0 b1 x1;obtain⟨j,hj,rfl,aeI,x2⟩:=hrel;have b0:=x2.cell J8.out id;have b1:=x2.cell yD.out id;by_cases hjl:j<k
    ·obtain⟨_,_,he,_,_,h3⟩:=h_.open (hn0.kept (hext.trans x2) (fun _ f=>f.elim));rw[HN.out]at he h3;cases he;obtain⟨b',off',he,_,hc⟩:=h3 af;cases he;have hck:=hc k hkl;have hcj:=hc j af;have aeJ:j<ss.length:=af;rw[getD_at ss k _ hkl',HY.out]at hck;rw[getD_at ss j _ aeJ]at hcj;have htk:(ss.map bytesOf).take (j+1)=(ss.map bytesOf).take j++[bytesOf ss[j]]:=by
      rw[aF (by rw[aQ];exact aeJ),List.getElem_map]
     have hmem:bytesOf ss[j]∈(ss.map bytesOf).take k:=by
      rw[List.mem_take_iff_getElem];exact⟨j,by rw[aQ];omega,by rw[List.getElem_map]⟩
     have he:=KU ss[j] y;generalize ss[j]=z at*;clear hc h3;have hjN:j<N:=af;by_cases hzy:bytesOf z=bytesOf y
     ·rw[aH hzy]at he;have HM:Hid (bytesOf y∈(ss.map bytesOf).take k):=by show _∈_;rw[←hzy];exact hmem
      clear hzy hmem htk
      go_wp2_with fail
      go_quiet (fail)
      go_wp2_with fail
      go_ret;have e:bb=false:=by
       rw[←Bool.not_eq_true,HI.out];rintro⟨⟨_,_,h⟩,_⟩;exact(HS.out.1 (Pl.xJ _ (k+1) (N-(k+1)) (by rw[show k+1+(N-(k+1))=N from af];exact h))).2.2 HM.out
      rw[e];exact⟨rfl,(hext.trans x2).drewN _⟩
     ·rw[aG hzy]at he;have HM:Hid (bytesOf y∉(ss.map bytesOf).take (j+1)):=by
       show _∉_;rw[htk,aI,aZ];rintro(h|h)
       ·exact aeI.out h
       ·exact hzy h.symm
      clear hzy hmem htk
      go_wp2_with fail
      go_quiet (fail)
      go_wp2_with fail
      refine⟨⟨j+1,af,by go_num,HM,x2.drewN _⟩,by simp[intOf];omega⟩
    ·obtain rfl:j=k:=af
     go_wp2_with fail
     refine⟨⟨j+1,af,by go_num,HS.out.2 ⟨hall.out,⟨af,af⟩,aeI.out⟩,x2⟩,by simp[intOf];omega⟩
  ·obtain rfl:k=N:=af
   go_wp2_with fail
   go_loopw [5] (fun i wr=>∃q:Nat,q≤G∧i=.int .i64 q∧Hid (∀g∈gs.take q,Pl.lY k g=true)∧Ext W0 wr) (fun i _=>G-(intOf i).toNat)
   case atStart=>exact⟨0,aM _,rfl,by show∀g∈_,_;simp,x1⟩
   case round=>
    clear b0 b1 x1;obtain⟨q,hq,rfl,hgs,x3⟩:=hrel;have b0:=x3.cell J8.out id;have b1:=x3.cell yD.out id;by_cases kK:q<G
    ·obtain⟨_,_,he,_,_,h3⟩:=(hg0.kept hext (fun _ f=>f.elim)).open;rw[HG.out]at he h3;cases he;obtain⟨b,off,rfl,hb0,hc⟩:=h3 af;have Yw:q<gs.length:=by rw[HG.out];exact kK
     obtain⟨ai,ci,xG,m_⟩:=hc q kK;have hck:=x3.cell xG id;rw[getD_at gs q _ Yw]at hck m_;clear xG;have htk:gs.take (q+1)=gs.take q++[gs[q]]:=aF Yw;have hmem:gs[q]∈gs:=aJ Yw;clear hc h3;generalize gs[q]=g at*;obtain⟨_,_,he,gl1,gl2,-⟩:=m_.open;cases he;generalize hgl:g.length=gl at*;have hgi:=Pl.qA k g;rw[hgl]at hgi;have HGI:=hide hgi;have ZU:=hide hgl;clear hgi hgl;by_cases hne:gl=k
     ·have hneb:((gl:Int) !=(k:Int))=false:=by simp[hne]
      have Aw:=hide hne;have anB:1≤gl∧gl≤4:=af;clear hne
      go_wp2_with fail
      go_loopw [7] (fun i wr=>∃r:Nat,r≤gl∧i=.int .i64 r∧Hid ((∀l∈g.take r,Pl.mK (g.getD 0 []).length l=true)∧(1≤r→1≤(g.getD 0 []).length∧(g.getD 0 []).length≤20))∧Ext W0 wr) (fun i _=>gl-(intOf i).toNat)
      case atStart=>exact⟨0,aM _,rfl,⟨aj,fun h=>absurd h af⟩,x3⟩
      case round=>
       clear b0 b1 hck x3;obtain⟨r,hr,rfl,hls,x4⟩:=hrel;by_cases hrl:r<gl
       ·obtain⟨_,_,he,_,_,h3⟩:=m_.open;rw[ZU.out]at he h3;cases he;obtain⟨b4,II,rfl,hb4,hc⟩:=h3 af;obtain⟨a0,c0,Oc,hr0⟩:=hc 0 af;obtain⟨al,cl,xH,IJ⟩:=hc r hrl;have Sz:r<g.length:=by rw[ZU.out];exact hrl
        rw[getD_at g r _ Sz]at xH IJ;have hc0:=x4.cell Oc id;have hcl:=x4.cell xH id;simp only[Nat.add_zero]at hc0;have ajB:g.take (r+1)=g.take r++[g[r]]:=aF Sz;have afr:g[r]∈g:=aJ Sz;have al_:r=0→g[r]=g.getD 0 []:=fun e=>by subst e;rw[getD_at g 0 _ Sz]
        have ajC:=hide xH;clear hc h3 Oc xH hr0;generalize g[r]=l at*;obtain⟨_,_,he,ll1,ll2,-⟩:=jD.open IJ;cases he;generalize hrows:(g.getD 0 []).length=rows at*;generalize hll:l.length=n at*;have HLL:=hide hll;have hol:Pl.mK rows l=true↔n=rows∧l.all Pl.mJ=true:=by
         unfold Pl.mK;rw[Bool.and_eq_true,decide_eq_true_eq,hll]
        have HOL:=hide hol;clear hll hol hrows;have anC:r<4:=af;have Qj:Pl.mK rows l=false∨rows<1∨20<rows→bb=false:=fun hbad=>by
         rw[←Bool.not_eq_true,HI.out];rintro⟨_,_,h⟩;obtain⟨_,a1,a2,a3⟩:=HGI.out.1 (h g hmem);rcases hbad with hbad|hbad|hbad
         ·have:=a3 l afr;rw[hbad]at this;cases this
         ·omega
         ·omega
        have FB:=hide Qj;clear Qj;by_cases hnr:n=rows
        ·subst hnr;have hnb:((n:Int) !=(n:Int))=false:=aj;by_cases hn1:n<1
         ·have hd1:decide ((n:Int)<1)=true:=by simp;omega
          go_wp2_with fail
          go_quiet (fail)
          go_wp2_with fail
          go_ret;rw[FB.out (.inr (.inl hn1))];exact⟨rfl,(hext.trans x4).drewN _⟩
         have hd1:decide ((n:Int)<1)=false:=by simp;omega
         by_cases ajD:20<n
         ·have hd2:decide ((20:Int)<(n:Int))=true:=by simp;omega
          go_wp2_with fail
          go_quiet (fail)
          go_wp2_with fail
          go_ret;rw[FB.out (.inr (.inr ajD))];exact⟨rfl,(hext.trans x4).drewN _⟩
         have hd2:decide ((20:Int)<(n:Int))=false:=by simp;omega
         go_wp2_with fail
         go_quiet (fail)
         go_wp2_with fail
         go_loopw [8] (fun i wr=>∃m:Nat,m≤n∧i=.int .i64 m∧Hid ((l.take m).all Pl.mJ=true)∧Ext W0 wr) (fun i _=>n-(intOf i).toNat)
         case atStart=>exact⟨0,aM _,rfl,by show _=_;simp,x4.drewN _⟩
         case round=>
          clear hc0 hcl x4;obtain⟨m,hm,rfl,hvs,x5⟩:=hrel;have hcl:=x5.cell ajC.out id;by_cases hml:m<n
          ·obtain⟨_,_,he,_,_,h3⟩:=jD.open (IJ.kept x5 (fun _ f=>f.elim));rw[HLL.out]at he h3;cases he;obtain⟨b5,anD,rfl,hb5,hc⟩:=h3 af;have hcm:=hc m hml;have hml':m<l.length:=by rw[HLL.out];exact hml
           rw[getD_at l m _ hml']at hcm;have ajE:l.take (m+1)=l.take m++[l[m]]:=aF hml';have ZV:l[m]∈l:=aJ hml';clear hc h3;generalize l[m]=y at*;have hyv:=Pl.uH y;have HYV:=hide hyv;clear hyv;by_cases hy0:y<0
           ·go_wp2_with fail
            go_ret;rw[FB.out (.inl (by
             rw[←Bool.not_eq_true,HOL.out,List.all_eq_true];rintro⟨_,h⟩;have:=HYV.out.1 (h y ZV);omega))]
            exact⟨rfl,hext.trans x5⟩
           by_cases amC:1099511627775<y
           ·go_wp2_with fail
            go_ret;rw[FB.out (.inl (by
             rw[←Bool.not_eq_true,HOL.out,List.all_eq_true];rintro⟨_,h⟩;have:=HYV.out.1 (h y ZV);omega))]
            exact⟨rfl,hext.trans x5⟩
           go_wp2_with fail
           refine⟨⟨m+1,af,by go_num,?_,x5⟩,by simp[intOf];omega⟩;show _=_;rw[ajE,List.all_append,hvs.out];simp only[List.all_cons,List.all_nil,Bool.and_true,Bool.true_and];exact HYV.out.2 af
          ·obtain rfl:m=n:=af
           go_wp2_with fail
           have hv:=hvs.out;rw[←HLL.out,aX]at hv;refine⟨⟨r+1,af,by go_num,⟨?_,fun _=>⟨af,af⟩⟩,x5⟩,by simp[intOf];omega⟩;rw[ajB];intro l' hl';rcases aI.1 hl' with h|h
           ·exact hls.out.1 l' h
           ·rw[aZ.1 h];exact HOL.out.2 ⟨by trivial,hv⟩
        ·have hnb:((n:Int) !=(rows:Int))=true:=by simp;omega
         have HNR:=hide hnr;clear hnr
         go_wp2_with fail
         go_quiet (fail)
         go_wp2_with fail
         go_ret;rw[FB.out (.inl (by rw[←Bool.not_eq_true,HOL.out];exact fun h=>HNR.out h.1))];exact⟨rfl,(hext.trans x4).drewN _⟩
       ·obtain rfl:r=gl:=af
        go_wp2_with fail
        have hyes:Pl.lY k g=true:=by
         have h:=hls.out;rw[←ZU.out,aX]at h;have h1:=h.2 (by rw[ZU.out];omega);exact HGI.out.2 ⟨Aw.out,h1.1,h1.2,h.1⟩
        refine⟨⟨q+1,af,by go_num,?_,x4⟩,by simp[intOf];omega⟩;show∀g'∈_,_;rw[htk];intro g' hg';rcases aI.1 hg' with h|h
        ·exact hgs.out g' h
        ·rw[aZ.1 h];exact hyes
     ·have hneb:((gl:Int) !=(k:Int))=true:=by simp;omega
      have Aw:=hide hne;clear hne
      go_wp2_with fail
      go_ret;have e:bb=false:=by
       rw[←Bool.not_eq_true,HI.out];rintro⟨_,_,h⟩;have:=h g hmem;exact Aw.out (HGI.out.1 this).1
      rw[e];exact⟨rfl,hext.trans x3⟩
    ·obtain rfl:q=G:=af
     go_wp2_with fail
     go_ret;have h:=hgs.out;rw[←HG.out,aX]at h;have e:bb=true:=HI.out.2 ⟨⟨af,af,hall.out⟩,af,h⟩;rw[e];exact⟨rfl,hext.trans x3⟩
def enc2 (xs:List Int):List UInt8:=if Pl.rises 0 xs=true then 2::Pl.rising 0 xs else[]
theorem Od {xs:List Int}(h:Pl.rises 0 xs=true):enc2 xs=2::Pl.rising 0 xs:=by unfold enc2;rw[if_pos h]
theorem Qk {xs:List Int}(h:Pl.rises 0 xs=false):enc2 xs=[]:=by unfold enc2;rw[if_neg (by rw[h];simp)]
def prev (xs:List Int)(k:Nat):Int:=if k=0 then 0 else xs.getD (k-1) 0
theorem J9 (xs:List Int)(k:Nat):prev xs (k+1)=xs.getD k 0:=rfl
theorem prev_zero (xs:List Int):prev xs 0=0:=rfl
theorem Pb (B0:Nat)(w:World)(v:Value)(xs:List Int)(hr:jD B0 w v xs)(hx:∀x∈xs,0≤x∧x≤1099511627775)(hl:xs.length≤20):
 Calls Tryz.prog 94 #[.int .i64 2,v] w fun e w'=>e=.returned (T (enc2 xs))∧Ext w w':=by
 have hr0:=hr;obtain⟨ao,cap,rfl,h1,h2,-⟩:=jD.open hr;clear hr;have hcv:=C8 2 af af;go_enter Tryz.func94,Tryz.ntmps94
 go_wp2_with fail
 go_loopw [5,9] (fun t i wr=>∃(k:Nat)(S:List UInt8),k≤xs.length∧i=.int .i64 k∧t=T S∧S.length≤1+6*k∧Hid (Pl.rises 0 xs=Pl.rises (prev xs k) (xs.drop k))∧Hid (S++Pl.rising (prev xs k) (xs.drop k)=2::Pl.rising 0 xs)∧Ext w wr) (fun _ i _=>xs.length-(intOf i).toNat)
 case atStart=>exact⟨0,[2],aM _,rfl,rfl,aj,rfl,rfl,ax.alloc _⟩
 case round=>
  obtain⟨k,S,hk,rfl,rfl,hS,HR,HS,hext⟩:=hrel;clear hcv;by_cases hkl:k<xs.length
  ·obtain⟨KQ,cap',he,_,_,h3⟩:=jD.open (hr0.kept hext (fun _ f=>f.elim));cases he;obtain⟨b,off,rfl,hb0,hc⟩:=h3 af;have hck:=hc k hkl;have hxk:=hx (xs.getD k 0) (by rw[um xs k 0 hkl];exact aJ hkl);have hds:xs.drop k=xs.getD k 0::xs.drop (k+1):=by rw[um xs k 0 hkl];exact aV hkl
   rw[hds]at HR HS;clear hds;by_cases hk0:k=0
   ·subst hk0;rw[prev_zero]at HR HS;have HP:=J9 xs 0;generalize hx0:xs.getD 0 0=x0 at*;have yJ:=hide HP;clear hx0 HP hc h3 hr0 hx;have hvl:=Pl.eB 5 x0.toNat (by simp only[Nat.reduceAdd,Nat.reducePow];omega);simp only[Nat.add_zero,Int.natCast_zero]at hck⊢
    go_wp2_with fail
    refine(nN x0 _ hxk.1 hxk.2).mono ?_;rintro e w1 ⟨rfl,x1⟩
    go_wp2_with fail
    refine⟨⟨1,S++Pl.dG x0.toNat,af,by go_num,uj _ _,by simp only[aD];omega,?_,?_,hext.trans x1⟩,by simp[intOf];omega⟩
    ·show _=_;rw[HR.out,yJ.out];simp only[Pl.rises];rw[aH hxk.1];rfl
    ·show _=_;rw[←HS.out,yJ.out];simp[Pl.rising]
   ·have hcm:=hc (k-1) af;have hpm:=hx (xs.getD (k-1) 0) (by rw[um xs (k-1) 0 af];exact aJ _);have hpv:prev xs k=xs.getD (k-1) 0:=by unfold prev;rw[if_neg hk0]
    rw[hpv]at HR HS;have HP:=J9 xs k;generalize hx0:xs.getD k 0=x0 at*;generalize hy0:xs.getD (k-1) 0=y0 at*;have yJ:=hide HP;clear hx0 hy0 HP hc h3 hr0 hx hpv;have hkb:((k:Int)==0)=false:=by simp;omega
    have hi0:(0:Int)≤(k:Int)-1:=af;have hi1:(k:Int)-1<(xs.length:Int):=af;have hi2:((k:Int)-1).toNat=k-1:=af;have hiw:IntKind.i64.wrap ((k:Int)-1)=(k:Int)-1:=by simp[IntKind.wrap,IntKind.bits,IntKind.signed];omega
    by_cases hlt:x0<y0
    ·have hd:decide (x0<y0)=true:=by simp[hlt]
     go_wp2_with fail
     go_quiet (fail)
     go_wp2_with fail
     go_ret;have e:Pl.rises 0 xs=false:=by rw[HR.out];simp[Pl.rises];omega
     rw[Qk e];exact⟨rfl,hext.drewN _⟩
    ·have hd:decide (x0<y0)=false:=by simp;omega
     have hvl:=Pl.eB 5 (x0-y0).toNat (by simp only[Nat.reduceAdd,Nat.reducePow];omega);have hsw:IntKind.i64.wrap (x0-y0)=x0-y0:=by simp[IntKind.wrap,IntKind.bits,IntKind.signed];omega
     go_wp2_with fail
     go_quiet (fail)
     go_wp2_with fail
     go_region_with (go_at_call 72;go_must (refine(nN _ _ af af).mono ?_);rintro e w1 ⟨rfl,x1⟩)
     all_goals
      go_wp2_with fail
      refine⟨⟨k+1,S++Pl.dG (x0-y0).toNat,af,by go_num,uj _ _,by simp only[aD];omega,?_,?_,?_⟩,by simp[intOf];omega⟩
      ·show _=_;rw[HR.out,yJ.out];simp only[Pl.rises];rw[aH (by omega:y0≤x0)];rfl
      ·show _=_;rw[←HS.out,yJ.out];simp[Pl.rising]
      ·exact(Kp.drew (hext.drewN _)).trans (by assumption)
  ·go_wp2_with fail
   go_ret;rw[List.drop_of_length_le af]at HS HR;have e:Pl.rises 0 xs=true:=HR.out;rw[Od e,←HS.out];exact⟨by simp[Pl.rising],hext⟩
theorem Pf (B0:Nat)(w:World)(v:Value)(xs:List Int)(hr:jD B0 w v xs)(hx:∀x∈xs,0≤x∧x≤1099511627775)(hl:xs.length≤20):
 Calls Tryz.prog 73 #[v] w fun e w'=>e=.returned (T (Pl.page xs))∧Ext w w':=by
 have E0:=hide (fun u(hu:Ext w u)=>O9 B0 u v xs (hr.kept hu (fun _ f=>f.elim)) hx hl);have E1:=hide (fun u(hu:Ext w u)=>O_ B0 u v xs (hr.kept hu (fun _ f=>f.elim)) hx hl);have E2:=hide (fun u(hu:Ext w u)=>Pb B0 u v xs (hr.kept hu (fun _ f=>f.elim)) hx hl);have hb1:=vB xs 1 af hl hx;have hb2:=vB xs 2 af hl hx;have e2l:(enc2 xs).length≤200:=by
  have:=Fs xs 0 af hx;unfold enc2;split
  ·simp only[aR];omega
  ·simp
 have e1l:((1:UInt8)::Pl.runs xs).length≤200:=by
  have:=Eu _ xs (aK _) hl hx;simp only[aR];omega
 have P1:Hid (∀b,b=iH xs 1→iH xs 2=if((1:UInt8)::Pl.runs xs).length<b.length then 1::Pl.runs xs else b):=by
  intro b hb;subst hb;rfl
 have P2:Hid (∀b,b=iH xs 2→Pl.page xs=if(enc2 xs==[])=false∧(enc2 xs).length<b.length then enc2 xs else b):=by
  intro b hb;subst hb;show(if Pl.rises 0 xs=true∧((2:UInt8)::Pl.rising 0 xs).length<(iH xs 2).length then 2::Pl.rising 0 xs else iH xs 2)=_;cases xY:Pl.rises 0 xs with
  |true=>rw[Od xY];simp
  |false=>rw[Qk xY];simp
 have n1:(((1:UInt8)::Pl.runs xs)==[])=false:=rfl;go_enter Tryz.func73,Tryz.ntmps73
 go_wp2_with fail
 refine((bH E0) _ ax).mono ?_;rintro e w0 ⟨rfl,x0⟩
 go_wp2_with fail
 go_loopw [3,4] (fun t i wr=>∃(k:Nat),1≤k∧k≤3∧i=.int .i64 k∧t=T (iH xs k)∧Ext w wr) (fun _ i _=>3-(intOf i).toNat)
 case atStart=>exact⟨1,af,af,rfl,rfl,x0⟩
 case round=>
  obtain⟨k,hk1,hk3,rfl,rfl,hext⟩:=hrel;have hk4:k=1∨k=2∨k=3:=af;rcases hk4 with rfl|rfl|rfl
  ·go_wp2_with fail
   refine((bH E1) _ hext).mono ?_;rintro e w1 ⟨rfl,x1⟩;have HP:=P1.out _ rfl;generalize iH xs 1=b1 at*;generalize hq:(1:UInt8)::Pl.runs xs=q1 at*;have yJ:=hide HP;clear HP P1 P2 E0 E1 E2 hq;by_cases hlt:q1.length<b1.length
   ·go_wp2_with fail
    go_roundw
    case rel=>exact⟨2,af,af,by go_num,by rw[yJ.out,if_pos hlt],hext.trans x1⟩
    case measure=>simp[intOf]
   ·go_wp2_with fail
    go_roundw
    case rel=>exact⟨2,af,af,by go_num,by rw[yJ.out,if_neg hlt],hext.trans x1⟩
    case measure=>simp[intOf]
  ·go_wp2_with fail
   refine((bH E2) _ hext).mono ?_;rintro e w1 ⟨rfl,x1⟩;have HP:=P2.out _ rfl;have HQ:Hid (iH xs 3=Pl.page xs):=rfl;generalize iH xs 2=b1 at*;generalize enc2 xs=q1 at*;have yJ:=hide HP;clear HP P1 P2 E0 E1 E2;cases hne:(q1==[])with
   |true=>
    rw[hne]at yJ
    go_wp2_with fail
    go_roundw
    case rel=>exact⟨3,af,af,by go_num,by rw[HQ.out,yJ.out];simp,hext.trans x1⟩
    case measure=>simp[intOf]
   |false=>
    rw[hne]at yJ;by_cases hlt:q1.length<b1.length
    ·go_wp2_with fail
     go_roundw
     case rel=>exact⟨3,af,af,by go_num,by rw[HQ.out,yJ.out,if_pos ⟨trivial,hlt⟩],hext.trans x1⟩
     case measure=>simp[intOf]
    ·go_wp2_with fail
     go_roundw
     case rel=>exact⟨3,af,af,by go_num,by rw[HQ.out,yJ.out,if_neg (fun h=>hlt h.2)],hext.trans x1⟩
     case measure=>simp[intOf]
  ·go_wp2_with fail
   go_ret;exact⟨rfl,hext⟩
theorem aaQ (l:List UInt8)(w:World)(hs:l.length≤10000):Calls Tryz.prog 74 #[T l] w fun e w'=>e=.returned (T (Pl.oM l))∧Ext w w':=
 FQ ⟨l.toArray⟩ w (by show l.toArray.size≤_;simpa using hs)
theorem SA (a:List UInt8)(y:ByteArray):Value.string ({data:=a.toArray}++y)=T (a++bytesOf y):=by
 cases y;rename_i d;have:=ByteArray.mk_append_mk a d.toList;simp only[Array.toArray_toList]at this;rw[this];rfl
theorem aaR (st:List UInt8×List UInt8):T (Pl.whole st)=.string ({data:=st.1.toArray}++{data:=st.2.toArray}++{data:=[UInt8.ofNat (st.2.length/256),UInt8.ofNat (st.2.length%256)].toArray}++{data:=#[67,79,76,49]}):=by
 have h1:=ByteArray.mk_append_mk st.1 st.2;have h2:=ByteArray.mk_append_mk (st.1++st.2) [UInt8.ofNat (st.2.length/256),UInt8.ofNat (st.2.length%256)];have h3:=ByteArray.mk_append_mk (st.1++st.2++[UInt8.ofNat (st.2.length/256),UInt8.ofNat (st.2.length%256)]) Pl.mark;rw[h1,h2];exact congrArg Value.string h3.symm
theorem Cx (B0:Nat)(w:World)(nv gv:Value)(ss:List ByteArray)(gs:List (List (List Int)))(hn:h_ B0 w nv ss)(hg:jy B0 w gv gs):
 Calls Tryz.prog 46 #[.agg #[nv,gv]] w fun e w'=>e=.returned (.tuple #[T (Pl.write (ss.map bytesOf) gs).1,.int .i64 (Pl.write (ss.map bytesOf) gs).2])∧Ext w w':=by
 have hwr:∀u,Ext w u→Calls Tryz.prog 71 #[.agg #[nv,gv]] u fun e w'=>e=.returned (.bool (Pl.lC (ss.map bytesOf) gs))∧Ext u w':=fun u hu=>Ob B0 u nv gv ss gs (hn.kept hu (fun _ f=>f.elim)) (hg.kept hu (fun _ f=>f.elim))
 have hn0:=hn;have hg0:=hg;obtain⟨an,cn,rfl,n1,n2,-⟩:=h_.open hn;obtain⟨ag,cg,rfl,g1,g2,-⟩:=hg.open;clear hn hg;have hext:Ext w (w.alloc (.cells #[.slice an ss.length cn,.slice ag gs.length cg] 42)):=ax.alloc _;have HR:=hide hwr;clear hwr;cases hok:Pl.lC (ss.map bytesOf) gs with
 |false=>
  rw[hok]at HR;rw[NZ hok];clear hok;go_enter Tryz.func46,Tryz.ntmps46
  go_wp2_with fail
  refine((bH HR) _ hext).mono ?_;rintro e w1 ⟨rfl,x1⟩
  go_wp2_with fail
  go_ret2
  exact⟨rfl,hext.trans x1⟩
 |true=>
  rw[hok]at HR;rw[J4 hok];obtain⟨t1,t2,t3⟩:=(Pl.uy _ _).1 hok;obtain⟨l1,l2,l3⟩:=(Pl.fD _).1 t1;rw[aQ]at t3 l1 l2;have hfits:=Qh l1 l2 t3;have yo:∀g∈gs,g.length=ss.length:=fun g hg=>((Pl.qA _ _).1 (t3 g hg)).1
  have hss:∀s∈ss,s.size≤8:=fun s hs=>by
   have:=l3.1;rw[aX,List.all_eq_true]at this;have:=(Pl.nQ _).1 (this (bytesOf s) (List.mem_map.2 ⟨s,hs,rfl⟩));rw[gX]at this;exact this.2
  have HP:Hid (Pl.parts (ss.map bytesOf) gs=Pl.mI (Pl.mark,Pl.dG ss.length++Pl.nameBytes (ss.map bytesOf)++Pl.dG gs.length) gs):=by
   show _=_;unfold Pl.parts;rw[aQ]
  clear hok t1 t3 l3;have hp0:(w.alloc (.cells #[.slice an ss.length cn,.slice ag gs.length cg] 42)).cell? ⟨w.heap.size,0,none⟩=some (.slice an ss.length cn):=World.cell?_alloc_new w _ _ 0;have hp1:(w.alloc (.cells #[.slice an ss.length cn,.slice ag gs.length cg] 42)).cell? ⟨w.heap.size,1,none⟩=some (.slice ag gs.length cg):=World.cell?_alloc_new w _ _ 1;have J8:=hide hp0;have yD:=hide hp1;clear hp0 hp1;go_enter Tryz.func46,Tryz.ntmps46
  go_wp2_with fail
  generalize w.alloc (.cells #[.slice an ss.length cn,.slice ag gs.length cg] 42)=W0 at*;refine((bH HR) _ hext).mono ?_;rintro e w1 ⟨rfl,x1⟩;have b0:=x1.cell J8.out id;have b1:=x1.cell yD.out id
  go_wp2_with fail
  refine(nN _ _ af af).mono ?_;rintro e w2 ⟨rfl,x2⟩;clear b0 b1;have x12:=x1.trans x2;clear x1 x2
  go_wp2_with fail
  go_loopw [6,7] (fun t i wr=>∃(k:Nat)(F:List UInt8),k≤ss.length∧i=.int .i64 k∧t=T F∧F.length≤1+9*k∧Hid (F=Pl.dG ss.length++Pl.nameBytes ((ss.take k).map bytesOf))∧Ext W0 wr) (fun _ i _=>ss.length-(intOf i).toNat)
  case atStart=>exact⟨0,Pl.dG ss.length,aM _,rfl,rfl,Pl.eB 0 _ (by show _<128;omega),by show _=_;simp[Pl.nameBytes],x12⟩
  case round=>
   clear x12;obtain⟨k,F,hk,rfl,rfl,hF,HF,x3⟩:=hrel;have b0:=x3.cell J8.out id;have b1:=x3.cell yD.out id;by_cases hkl:k<ss.length
   ·obtain⟨_,_,he,_,_,h3⟩:=h_.open (hn0.kept (hext.trans x3) (fun _ f=>f.elim));cases he;obtain⟨b,off,rfl,hb0,hc⟩:=h3 af;have hck:=hc k hkl;rw[getD_at ss k _ hkl]at hck;have hyk:=hss ss[k] (aJ hkl);have HT:Hid (F++Pl.dG (bytesOf ss[k]).length++bytesOf ss[k]=Pl.dG ss.length++Pl.nameBytes ((ss.take (k+1)).map bytesOf)):=by
     show _=_;rw[aF hkl,a_,List.map_singleton,Pl.y9,HF.out];simp
    rw[gX]at HT;have hyl:=gX ss[k];clear hc h3;generalize ss[k]=y at*;have hv:=Pl.eB 0 y.size (by show _<128;omega);have HYL:=hide hyl;clear hyl
    go_wp2_with fail
    go_region_held (fun u=>u.cell? ⟨w.heap.size,0,none⟩=some (.slice (some ⟨b,off,none⟩) ss.length cn)∧u.cell? ⟨b,off+k,none⟩=some (.string y)) (go_keep)
     (first|(go_at_call 72;go_must (refine(nN _ _ af af).mono ?_);rintro e w4 ⟨rfl,x4⟩;have anE:=x4.cell (a:=⟨b,off+k,none⟩) (by exact hck) id;have b04:=x4.cell (a:=⟨w.heap.size,0,none⟩) (by exact b0) id))
    go_wp2_with fail
    refine⟨⟨k+1,F++Pl.dG y.size++bytesOf y,af,by go_num,?_,?_,HT,x3.drew.trans x4⟩,by simp[intOf];omega⟩
    ·rw[show({data:=F.toArray}++{data:=(Pl.dG y.size).toArray}:ByteArray)={data:=(F++Pl.dG y.size).toArray}from ByteArray.mk_append_mk _ _,SA]
    ·simp only[aD];rw[HYL.out];omega
   ·obtain rfl:k=ss.length:=af;rw[aX]at HF;have hvg:=Pl.eB 0 gs.length (by show _<128;omega)
    go_wp2_with fail
    refine(nN _ _ af af).mono ?_;rintro e w4 ⟨rfl,x4⟩;have x34:=x3.trans x4;clear x3 x4 b0 b1;rw[←HF.out]at HP;have hnb:(F++Pl.dG gs.length).length≤38:=by simp only[aD];omega
    go_wp2_with fail
    clear HF;go_loopw [5,6,8] (fun t5 t6 i wr=>∃(q:Nat)(st:List UInt8×List UInt8),q≤gs.length∧i=.int .i64 q∧t5=T st.1∧t6=T st.2∧st.1.length≤4000∧st.2.length≤500∧Hid (st=Pl.mI (Pl.mark,F++Pl.dG gs.length) (gs.take q))∧Ext W0 wr) (fun _ _ i _=>gs.length-(intOf i).toNat)
    case atStart=>exact⟨0,(Pl.mark,F++Pl.dG gs.length),aM _,rfl,rfl,uj _ _,by show 4≤4000;omega,by show(F++Pl.dG gs.length).length≤500;omega,rfl,x34⟩
    case round=>
     clear x34;obtain⟨q,st,hq,rfl,rfl,rfl,hs1,hs2,HST,x5⟩:=hrel;have b0:=x5.cell J8.out id;have b1:=x5.cell yD.out id;by_cases kK:q<gs.length
     ·obtain⟨_,_,he,_,_,h3⟩:=(hg0.kept hext (fun _ f=>f.elim)).open;cases he;obtain⟨b,off,rfl,hb0,hc⟩:=h3 af;obtain⟨ai,ci,xG,m_⟩:=hc q kK;have hck:=x5.cell xG id;rw[getD_at gs q _ kK]at hck m_ xG;have Jp:=hide xG;clear xG hc h3;have hfg:=hfits gs[q] (aJ kK);have hgc:=yo gs[q] (aJ kK);have hlen:=J3 (gs.take (q+1)) (Pl.mark,F++Pl.dG gs.length) (by simp only[aU,xD];omega) (fun g hg=>hfits g (List.mem_of_mem_take hg));simp only[aU,xD]at hlen;have hmin:min (q+1) gs.length=q+1:=Nat.min_eq_left af;rw[hmin]at hlen;have HN:Hid (Pl.mI (Pl.mark,F++Pl.dG gs.length) (gs.take (q+1))=Pl.rT st gs[q]):=by
       show _=_;rw[aF kK,Pl.Fg,HST.out]
      rw[HN.out]at hlen;clear hmin;generalize gs[q]=g at*;obtain⟨_,_,he,gl1,gl2,h4⟩:=m_.open;cases he;obtain⟨b4,II,rfl,hb4,hc4⟩:=h4 af;obtain⟨a0,c0,Oc,hr0⟩:=hc4 0 af;have hc0:=x5.cell Oc id;simp only[Nat.add_zero]at hc0;have hx0:=(hfg.2.2 (g.getD 0 []) (by rw[getD_at g 0 [] af];exact aJ _)).1;have HG:Hid (Pl.rT st g=Pl.mH (st.1,st.2++Pl.dG (g.getD 0 []).length) g):=rfl;generalize(g.getD 0 []).length=rows at*;have Tn:=Pl.eB 0 rows (by show _<128;omega);clear Oc hr0 h4
      go_wp2_with fail
      refine(nN _ _ af af).mono ?_;rintro e w6 ⟨rfl,x6⟩;have Jy:=x5.trans x6;clear x5 x6 b0 b1 hc0 hck
      go_wp2_with fail
      go_loopw [5,6,9] (fun t5 t6 i wr=>∃(r:Nat)(sr:List UInt8×List UInt8),r≤g.length∧i=.int .i64 r∧t5=T sr.1∧t6=T sr.2∧Hid (sr=Pl.mH (st.1,st.2++Pl.dG rows) (g.take r))∧Ext W0 wr) (fun _ _ i _=>g.length-(intOf i).toNat)
      case atStart=>exact⟨0,(st.1,st.2++Pl.dG rows),aM _,rfl,rfl,uj _ _,rfl,Jy⟩
      case round=>
       clear Jy;obtain⟨r,sr,hr,rfl,rfl,rfl,J2,x7⟩:=hrel;have b0:=x7.cell J8.out id;have b1:=x7.cell yD.out id;have hck:=x7.cell Jp.out id;have hsl:=Bp (g.take r) (st.1,st.2++Pl.dG rows) (by simp only[aU];omega) (fun x hx=>hfg.2.2 x (List.mem_of_mem_take hx));rw[←J2.out]at hsl;simp only[aU,aD]at hsl;have hmin:min r g.length=r:=Nat.min_eq_left hr;rw[hmin]at hsl;clear hmin;by_cases hrl:r<g.length
       ·obtain⟨al,cl,xH,IJ⟩:=hc4 r hrl;have hcl:=x7.cell xH id;rw[getD_at g r _ hrl]at hcl IJ;have hxl:=hfg.2.2 g[r] (aJ hrl);have hpl:=zO g[r] hxl.1 hxl.2;have HT:Hid (Pl.mH (st.1,st.2++Pl.dG rows) (g.take (r+1))=Pl.sZ sr g[r]):=by
         show _=_;rw[aF hrl,Pl.Ff,J2.out]
        clear xH;generalize g[r]=l at*;have hrd:=IJ.kept x7 (fun _ f=>f.elim)
        go_wp2_with fail
        refine(Pf B0 _ _ l hrd hxl.2 hxl.1).mono ?_;rintro e w8 ⟨rfl,x8⟩;have HA:Hid (Pl.sZ sr l=(sr.1++Pl.page l,sr.2++Pl.dG sr.1.length++Pl.dG (Pl.page l).length++Pl.oM (Pl.page l))):=rfl;have h4:=Pl.zK (Pl.page l);generalize Pl.page l=pg at*;have v1:=Pl.eB 2 sr.1.length (by simp only[Nat.reduceAdd,Nat.reducePow];omega);have v2:=Pl.eB 2 pg.length (by simp only[Nat.reduceAdd,Nat.reducePow];omega)
        go_wp2_with fail
        refine(nN _ _ af af).mono ?_;rintro e w9 ⟨rfl,x9⟩
        go_wp2_with fail
        refine(nN _ _ af af).mono ?_;rintro e w10 ⟨rfl,x10⟩
        go_wp2_with fail
        refine(aaQ pg _ af).mono ?_;rintro e w11 ⟨rfl,x11⟩
        go_wp2_with fail
        refine⟨⟨r+1,Pl.sZ sr l,af,by go_num,?_,?_,by show _=_;rw[HT.out],((x7.trans x8).trans x9).trans (x10.trans x11)⟩,by simp[intOf];omega⟩
        ·rw[HA.out];exact uj _ _
        ·rw[HA.out];simp only[ByteArray.mk_append_mk]
       ·obtain rfl:r=g.length:=af;rw[aX]at J2
        go_wp2_with fail
        refine⟨⟨q+1,sr,af,by go_num,rfl,rfl,?_,?_,?_,x7⟩,by simp[intOf];omega⟩
        ·rw[J2.out,←HG.out];omega
        ·rw[J2.out,←HG.out];omega
        ·show _=_;rw[HN.out,HG.out,J2.out]
     ·obtain rfl:q=gs.length:=af;rw[aX]at HST;rw[←HST.out]at HP;have hcv:∀u:World,(convert 76 9 (.slice (some ⟨u.heap.size,0,none⟩) 2 2)).run Tryz.prog (u.alloc (.cells #[Value.int .u8 ((st.2.length:Int)/256),Value.int .u8 ((st.2.length:Int)%256)] 5))=.ok (T [UInt8.ofNat (st.2.length/256),UInt8.ofNat (st.2.length%256)]) (u.alloc (.cells #[Value.int .u8 ((st.2.length:Int)/256),Value.int .u8 ((st.2.length:Int)%256)] 5)):=fun u=>
       vY _ _ _ (uI u _ 2 _ rfl (Fp st.2.length af) af) aj
      have hwl:(Pl.whole st).length=st.1.length+st.2.length+6:=by
       unfold Pl.whole;simp only[aD,xD,aR,List.length_nil]
      have yH:=hide hwl;clear hwl;by_cases hbig:4000<st.1.length+st.2.length+6
      ·go_wp2_with fail
       go_ret2
       rw[HP.out,Pl.IU _ (by rw[yH.out];exact hbig)];exact⟨rfl,(hext.trans x5).alloc _⟩
      ·go_wp2_with fail
       go_ret2
       rw[HP.out,Pl.IQ _ (by rw[yH.out];omega)];refine⟨?_,(hext.trans x5).alloc _⟩;show _=Ending.returned (.tuple #[T (Pl.whole st),.int .i64 0]);rw[aaR];rfl
end Go.Proofs.YthicgffppmbamaaGreat
