import Derived.Test.YthicgffppmbamaaGreatRows
import Derived.OpenShut
import Derived.JoinedCond
import Derived.Deep.CondSized
import Derived.Test.YthicgffppmbamaaGreatP25
import Derived.Test.YthicgffppmbamaaGreatP26
set_option maxRecDepth 100000
set_option maxHeartbeats 16000000
namespace Go.Proofs.YthicgffppmbamaaGreat
open Go.RowKit
section
open Go.ChangeShapes Go.WideShapes Go.ChangeAt
theorem aeS :ownKnob Tryz.prog.godebug=none:=by kernel_rfl
theorem xI :laidOutB Tryz.prog=true:=by kernel_rfl
theorem y7.wide {w w':World}{x:Oe}(h:y7 w.heap.size w x)(k:Ext w w'):y7 w'.heap.size w' x:=by
 have h':=h.ext k;exact⟨Rd.mono h'.names k.size,jy.mono h'.groups k.size,Rd.mono h'.want k.size,h.raw,h.tn,h.ws⟩
theorem SI (w:World)(tv sv cv:Value)(ts:List Wy)(hr:YG w.heap.size w tv ts)(sp:List Oe)(jb:List Wi)(hs:bM (fun b=>b<w.heap.size) false w 9 sv sp.length (sp.flatMap rR))(hsp:∀x∈sp,y7 w.heap.size w x)(hc:bM (fun b=>b<w.heap.size) false w 5 cv jb.length (jb.flatMap qh))(hac:∀x∈jb,SB x)(hsl:sp.length≤1000000000)(hal:jb.length≤2000000):
 Calls Tryz.prog 10 #[tv,sv,cv] w fun e w'=>e=.returned (.bool true)∧Ext w w':=by
 have HW:=hide (SH w tv ts hr);have HS:Hid (∀u,Ext w u→Calls Tryz.prog 4 #[sv,cv] u fun e w'=>e=.returned (.bool true)∧Ext u w'):=fun u x=>
  Cy u sv cv sp jb (hs.go (C':=fun b=>b<u.heap.size) x (fun _ _ f=>f) (fun i hi _=>aY hi x.size)) (fun y hy=>(hsp y hy).wide x) (hc.go (C':=fun b=>b<u.heap.size) x (fun _ _ f=>f) (fun i hi _=>aY hi x.size)) hac hsl hal
 obtain⟨so,sc,rfl,-,-⟩:=hs.get;obtain⟨co,cc,rfl,-,-⟩:=hc.get;obtain⟨ta,tc,rfl,-⟩:=hr;go_enter Tryz.func10,Tryz.ntmps10
 go_wp2_with fail
 refine(bH HW).mono ?_;rintro e w1 ⟨rfl,x1⟩
 go_wp2_with fail
 refine(HS.out _ x1).mono ?_;rintro e w2 ⟨rfl,x2⟩;go_wp2;all_goals go_ret
 exact⟨rfl,x1.trans x2⟩
theorem SK (os:Os)(started:os.Started)(H:Type)(enc:TypeId×Value→H)(F:Stop.Interp):
 ReturnsInHanded {} Tryz.checked os 10 .any ((Rows.OpenSpec.upto Rows.allSpec).pre6 enc Tryz.prog Tryz.f10 Rows.allUptoRow.domain false) (((Rows.OpenSpec.upto Rows.allSpec).at F).post enc Tryz.prog Tryz.f10 false true false false):=by
 refine returnsInHanded_of_cond_sized (C:=Tryz.checked) (s:=Rows.OpenSpec.upto Rows.allSpec) (k:=Rows.uptoSmall) rfl aeS started (by kernel_rfl) Tryz.func10
  (OpenSpec.witness (enc:=enc) (C:=Tryz.checked) (s:=Rows.OpenSpec.upto Rows.allSpec) (k:=Rows.uptoSmall) rfl false ⟨#[],#[.slice none 0 0,.slice none 0 0,.slice none 0 0],[]⟩ 8 (by kernel_rfl) (by kernel_rfl) (by kernel_rfl)
   (x:=([.nil,.nil,.nil],[],[])) (by kernel_rfl) rfl (by kernel_rfl)) ?_
 intro W base args ds gs before hval0 hW _ hk0 hsz0 _;have hsz:(DataW.weightsEach Tryz.prog (Tryz.f10.params.toList++Rows.allSpec.plain.varTypes Tryz.prog) (ds++gs)).all (·≤reachBytes)=true:=hsz0;have hk:Rows.uptoBulkAll (ds++gs)≤1048576:=of_decide_eq_true hk0;clear hsz0 hk0;have hval:∀(j:Nat)t v,Tryz.f10.params[j]?=some t→args[j]?=some v→Value.okWide Tryz.prog W .any base t v:=hval0;have hW':=hW;obtain⟨p,q,hA0,hV,rfl,_,_⟩:=hW;have hA:DataW.TrodAll enc Tryz.prog W 0 (fun _=>true) true Tryz.f10.params.toList args.toList ds p:=hA0;rw[Tryz.params10]at hA hval hsz;obtain⟨v0,v1,v2,e0,e1,e2,p0,p1,p2,rfl,rfl,rfl,h0,h1,h2⟩:=trodAll_three hA;obtain⟨rfl,rfl⟩:=trodVars_none hV;obtain⟨a0,l0,c0,rfl⟩:=okWide_slice Tryz.underlying78 (hval 0 78 v0 rfl rfl);obtain⟨a1,l1,c1,rfl⟩:=okWide_slice Tryz.underlying38 (hval 1 38 v1 rfl rfl);obtain⟨a2,l2,c2,rfl⟩:=okWide_slice Tryz.underlying39 (hval 2 39 v2 rfl rfl);have h0k:=h0;have h1k:=h1;have h2k:=h2;obtain⟨afs,hf0⟩:=h0;obtain⟨fuel1,hf1⟩:=h1;obtain⟨fuel2,hf2⟩:=h2;clear hA0 hval0;simp only[List.append_nil]at hW' hk;have hlt:∀x∈p0++p1++p2,x.block<W.heap.size:=fun x hx=>by simpa using hW'.lt x hx
 have SC:iG 78 e0:=fun n hn=>by
  have:=List.all_eq_true.1 hsz n (DataW.weights_mem_each (j:=0) rfl rfl n hn);simpa using this
 have SE:iG 38 e1:=fun n hn=>by
  have:=List.all_eq_true.1 hsz n (DataW.weights_mem_each (j:=1) rfl rfl n hn);simpa using this
 have afu:iG 39 e2:=fun n hn=>by
  have:=List.all_eq_true.1 hsz n (DataW.weights_mem_each (j:=2) rfl rfl n hn);simpa using this
 simp only[Rows.uptoBulkAll]at hk;obtain⟨ts,hts⟩:=WG (enc:=enc) (W:=W) (v:=.slice a0 l0 c0) hf0 SC;obtain⟨sp,hs1,hs2,hs3⟩:=He (enc:=enc) (W:=W) (v:=.slice a1 l1 c1) hf1 SE af;obtain⟨jb,hc1,hc2,hc3⟩:=Kb (enc:=enc) (W:=W) (v:=.slice a2 l2 c2) hf2 afu af;refine(SI W _ _ _ ts hts sp jb hs1 hs2 hc1 hc2 af af).mono fun e W'⟨he,hx⟩=>?_
 subst he;have hb:=Ext.below hx;refine⟨_,rfl,_,_,_,[],p0++p1++p2,[],hW',?_,?_,rfl,hb.frame _,fun h=>by cases h⟩
 ·exact trodAll_mk1 (shut_bool Tryz.underlying4 true)
 ·have h3:=trodAll_mk3 (Below.trod xI (by kernel_rfl) (of_decide_eq_true (by kernel_rfl)) h0k hb (fun x hx=>hlt x (by simp[hx]))) (Below.trod xI (by kernel_rfl) (of_decide_eq_true (by kernel_rfl)) h1k hb (fun x hx=>hlt x (by simp[hx]))) (Below.trod xI (by kernel_rfl) (of_decide_eq_true (by kernel_rfl)) h2k hb (fun x hx=>hlt x (by simp[hx])));rw[←aW]at h3;exact h3
theorem all_holds :Rows.AllUptoSaid:=
 OpenClaim.holds_of_cond 10 Tryz.f10 rfl rfl rfl rfl rfl rfl rfl ⟨rfl,rfl,rfl,rfl,rfl⟩ rfl rfl rfl rfl rfl (by kernel_rfl) Tryz.func10 (by kernel_rfl)
  (of_decide_eq_true (by kernel_rfl)) (by unfold Func.isWrapper;first|(rw[if_pos (by decide+kernel)];kernel_rfl)|(rw[if_neg (by decide+kernel)];exact⟨rfl,rfl⟩))
  (fun os started H enc _ F=>SK os started H enc F)
#print axioms all_holds
end
end Go.Proofs.YthicgffppmbamaaGreat
