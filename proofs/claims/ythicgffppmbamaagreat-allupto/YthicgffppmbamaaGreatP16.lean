import Derived.BigQuiet
import Derived.Test.YthicgffppmbamaaGreatP5
import Derived.Test.YthicgffppmbamaaGreatP9
set_option maxRecDepth 100000
set_option maxHeartbeats 16000000
namespace Go.Proofs.YthicgffppmbamaaGreat
open Go.RowKit
def pE :Option Nat→Int
 |none=>-1
 |some i=>(i:Int)
theorem QU {l:List Pl.bQ}{id:Int}{k:Nat}(hk:k<l.length)(h:(l.take k).findIdx? (fun p=>decide ((p.id:Int)=id))=none):
 ((l[k].id:Int)=id→l.findIdx? (fun p=>decide ((p.id:Int)=id))=some k)∧(¬(l[k].id:Int)=id→(l.take (k+1)).findIdx? (fun p=>decide ((p.id:Int)=id))=none):=by
 rw[List.findIdx?_eq_none_iff]at h;refine⟨fun e=>?_,fun e=>?_⟩
 ·rw[List.findIdx?_eq_some_iff_getElem];refine⟨hk,by simpa using e,fun j hj=>?_⟩;have:=h l[j] (List.mem_iff_getElem.2 ⟨j,by rw[aU];omega,by rw[List.getElem_take]⟩);simpa using this
 ·rw[List.findIdx?_eq_none_iff,aF hk];intro x hx;rcases aI.1 hx with hx|hx
  ·exact h x hx
  ·obtain rfl:=aZ.1 hx;exact aG e
theorem Jb (col:bU)(w:World)(Y:Nat)(r:Pl.cO)(id:Int)(bJ:List Value)(nv pv rv tv:Value)(h:dK col w Y r bJ nv pv rv tv)(hpl:r.pieces.length≤1000):
 Calls Tryz.prog 92 #[PtrTo Y 0,.int .i64 id] w fun e w'=>e=.returned (.int .i64 (pE (Pl.iO r id)))∧w'=w:=by
 obtain⟨pa,pc,rfl,hpc⟩:=h.inn.pieces.shape;have c6:=h.blk.cell 6;have c7:=h.blk.cell 7;simp only[dm,I,au]at c6 c7;go_enter Tryz.func92,Tryz.ntmps92
 go_wp2_with fail
 go_loopw [5] (fun i wr=>∃k:Nat,i=.int .i64 k∧k≤r.pieces.length∧Hid ((r.pieces.take k).findIdx? (fun p=>decide ((p.id:Int)=id))=none)∧wr=w) (fun i _=>r.pieces.length-(intOf i).toNat)
 case atStart=>exact⟨0,rfl,af,by show _=_;simp,rfl⟩
 case round=>
  obtain⟨k,rfl,hk,HF,rfl⟩:=hrel;by_cases hkl:k<r.pieces.length
  ·have k1:(k:Int)<(r.pieces.length:Int):=af;have d1:decide ((k:Int)<(r.pieces.length:Int))=true:=aH k1;have k0:(0:Int)≤(k:Int):=af;by_cases hst:r.state=0
   ·have LB:(r.state:Int)=0:=af;have air:((r.state:Int)==0)=true:=by simp[hst]
    by_cases hid:0<id
    ·have did:decide (0<id)=true:=aH hid;obtain⟨g,cap,he,_,_,_⟩:=h.inn.pieces.at af;simp only[Value.slice.injEq]at he;obtain⟨rfl,-,rfl⟩:=he;obtain⟨x,hx,hcell⟩:=h.piece k hkl;have d5:=hcell 5 af;simp only[dx,I,au]at d5;have hgo:=QU hkl HF.out;have HG:=hide hgo;have HST:=hide hst;clear hcell hgo HF hst;generalize r.pieces[k].id=pid at*;by_cases he:(pid:Int)=id
     ·have Dx:((pid:Int)==id)=true:=by simp[he]
      have HR:Hid (Pl.iO r id=some k):=by
       show _=_;unfold Pl.iO;rw[if_pos ⟨HST.out,hid⟩];exact HG.out.1 he
      clear he
      go_wp2_with fail
      go_ret;rw[HR.out];exact⟨rfl,rfl⟩
     ·have Dx:((pid:Int)==id)=false:=by simpa using he
      have HG2:=hide (HG.out.2 he)
      go_wp2_with fail
      go_roundw
      case rel=>exact⟨k+1,by go_num,af,HG2,trivial⟩
      case measure=>simp[intOf];omega
    ·have did:decide (0<id)=false:=aG hid;have HR:Hid (Pl.iO r id=none):=by show _=_;unfold Pl.iO;rw[if_neg (fun e=>hid e.2)]
     go_wp2_with fail
     go_ret;rw[HR.out];exact⟨rfl,rfl⟩
   ·have LB:¬(r.state:Int)=0:=af;have air:((r.state:Int)==0)=false:=by simpa using hst
    have HR:Hid (Pl.iO r id=none):=by show _=_;unfold Pl.iO;rw[if_neg (fun e=>hst e.1)]
    go_wp2_with fail
    go_ret;rw[HR.out];exact⟨rfl,rfl⟩
  ·obtain rfl:k=r.pieces.length:=af;have d1:decide ((r.pieces.length:Int)<(r.pieces.length:Int))=false:=aG af;have HR:Hid (Pl.iO r id=none):=by
    show _=_;unfold Pl.iO;split
    ·have:=HF.out;rw[aX]at this;exact this
    ·rfl
   clear HF
   go_wp2_with fail
   go_ret;rw[HR.out];exact⟨rfl,rfl⟩
theorem TG {x:Int}(h1:0≤x)(h2:x≤10000000000000000):IntKind.i64.wrap x=x:=by
 simp[IntKind.wrap,IntKind.bits,IntKind.signed];omega
theorem aag (fl:Nat)(h:fl≤10)(u:World):(Op.shift .shl .i64 1 .i64 (IntKind.i64.wrap (fl:Int))).run Tryz.prog u=.ok (.int .i64 ((2^fl:Nat):Int)) u:=by
 have:fl=0∨fl=1∨fl=2∨fl=3∨fl=4∨fl=5∨fl=6∨fl=7∨fl=8∨fl=9∨fl=10:=af;rcases this with rfl|rfl|rfl|rfl|rfl|rfl|rfl|rfl|rfl|rfl|rfl<;>rfl
theorem vI {α:Type}(l:List α)(i:Nat)(f:α→α):(l.modify i f).length=l.length:=aj
theorem uE {α:Type}:∀(l:List α)(i:Nat)(hi:i<l.length)(f g:α→α),f l[i]=g l[i]→l.modify i f=l.modify i g
 |[],_,h,_,_,_=>by simp at h
 |a::l,0,_,f,g,e=>by simp only[List.modify_zero_cons];rw[show f a=g a from e]
 |a::l,i+1,h,f,g,e=>by simp only[List.modify_succ_cons];rw[uE l i (by simpa using h) f g e]
theorem dK.may {col:bU}{w:World}{Y g cap n:Nat}{r:Pl.cO}{bJ:List Value}{nv rv tv:Value}(h:dK col w Y r bJ nv (.slice (some ⟨g,0,none⟩) n cap) rv tv)(i j:Nat)(hi:i<r.pieces.length)(hj:j<9):w.frozen? ⟨g,i*9+j,none⟩=false:=by
 rcases h.inn.pieces.2 with⟨e,_⟩|⟨g',cap',e,h1,_,_,_,h5⟩
 ·cases e
 ·cases e;exact(h5 _ af).2
theorem dK.CZ {col:bU}{w:World}{Y g cap n:Nat}{r:Pl.cO}{bJ:List Value}{nv rv tv:Value}{i:Nat}{F:Pl.bQ→Pl.bQ}(h:dK col w Y {r with pieces:=r.pieces.modify i F} bJ nv (.slice (some ⟨g,0,none⟩) n cap) rv tv)(hn:n=r.pieces.length)(j:Nat)(hi:i<r.pieces.length)(hj:j<9)(v:Value)(f F':Pl.bQ→Pl.bQ)(hf:∀pv p,(dx pv p).set j v=dx pv (f p))(hfp:∀p,(f p).parts=p.parts)(hF:∀p,F' p=f (F p)):
 dK col (w.setCell ⟨g,i*9+j,none⟩ v) Y {r with pieces:=r.pieces.modify i F'} bJ nv (.slice (some ⟨g,0,none⟩) n cap) rv tv∧Kp (Mine col) w (w.setCell ⟨g,i*9+j,none⟩ v):=by
 have hl:(r.pieces.modify i F).length=n:=by rw[hn];simp
 subst hn;have h0:dK col w Y {r with pieces:=r.pieces.modify i F} bJ nv (.slice (some ⟨g,0,none⟩) ({r with pieces:=r.pieces.modify i F}:Pl.cO).pieces.length cap) rv tv:=by
  show dK col w Y _ bJ nv (.slice (some ⟨g,0,none⟩) (r.pieces.modify i F).length cap) rv tv;rw[hl];exact h
 have h1:=h0.cellP i j (by show i<(r.pieces.modify i F).length;omega) hj v f hf hfp;have e:((r.pieces.modify i F).modify i f)=r.pieces.modify i F':=by
  rw[List.modify_modify_eq]
  congr 1
  funext p;exact(hF p).symm
 have h2:dK col (w.setCell ⟨g,i*9+j,none⟩ v) Y {r with pieces:=(r.pieces.modify i F).modify i f} bJ nv (.slice (some ⟨g,0,none⟩) (r.pieces.modify i F).length cap) rv tv:=h1;rw[e,hl]at h2;exact⟨h2,h.Qz rfl _ _⟩
theorem dK.same {col:bU}{w:World}{Y:Nat}{r:Pl.cO}{bJ:List Value}{nv pv rv tv:Value}{i:Nat}(h:dK col w Y r bJ nv pv rv tv):dK col w Y {r with pieces:=r.pieces.modify i id} bJ nv pv rv tv:=by rw[List.modify_id];exact h
theorem Jc (col:bU)(w:World)(Y:Nat)(r:Pl.cO)(id:Int)(bJ:List Value)(nv pv rv tv:Value)(h:dK col w Y r bJ nv pv rv tv)(hpl:r.pieces.length≤1000)(hb:r.now≤1000000000000∧r.fails≤1000000000000∧r.tries≤100)(hf:∀i,Pl.iO r id=some i→(Pl.jE r i).failed≤10):
 Calls Tryz.prog 67 #[PtrTo Y 0,.int .i64 id] w fun e w'=>e=.returned (.int .i64 (Pl.iV r id).2)∧dK col w' Y (Pl.iV r id).1 bJ nv pv rv tv∧Kp (Mine col) w w':=by
 have HF:=hide (Jb col w Y r id bJ nv pv rv tv h hpl);cases hfi:Pl.iO r id with
 |none=>
  have HR:Hid (Pl.iV r id=(r,3)):=by show _=_;unfold Pl.iV;rw[hfi]
  rw[hfi]at HF;go_enter Tryz.func67,Tryz.ntmps67
  go_wp2_with fail
  refine(bH HF).mono ?_;rintro e w1 ⟨rfl,rfl⟩
  go_wp2_with fail
  go_ret;rw[HR.out];exact⟨rfl,h,Kp.refl _ _⟩
 |some i=>
  have l8:=hf i hfi;have hil:i<r.pieces.length:=by
   unfold Pl.iO at hfi;split at hfi
   ·rw[List.findIdx?_eq_some_iff_getElem]at hfi;exact hfi.1
   ·cases hfi
  rw[hfi,show pE (some i)=(i:Int)from rfl]at HF;obtain⟨g,cap,rfl,hcap,hg,-⟩:=h.inn.pieces.at af;have hpc:Pl.jE r i=r.pieces[i]:=by unfold Pl.jE;rw[aC,ay hil];rfl
  rw[hpc]at l8;have c7:=h.blk.cell 7;simp only[dm,I,au]at c7;have i0:(0:Int)≤(i:Int):=af;have i1:(i:Int)<(r.pieces.length:Int):=af;have in0:¬(i:Int)<0:=af;obtain⟨x,hx,hcell⟩:=h.piece i hil;have d5:=hcell 5 af;have d4:=hcell 4 af;simp only[dx,I,au]at d4 d5;have f5:=h.may i 5 hil af;obtain⟨fl,hfl⟩:∃fl,r.pieces[i].failed=fl:=⟨_,rfl⟩
  rw[hfl]at l8 d4;obtain⟨h1,k1⟩:=h.same.CZ rfl 5 hil af (.int .i64 0) (fun p=>{p with id:=0}) (fun p=>{p with id:=0}) (fun _ _=>by simp[dx,I]) (fun _=>rfl) (fun _=>rfl);have e4:(w.setCell ⟨g,i*9+5,none⟩ (.int .i64 0)).cell? ⟨g,i*9+4,none⟩=some (.int .i64 (fl:Int)):=by
   rw[World.cell?_setCell_other _ _ _ _ (fun e=>by injection e;omega)];exact d4
  have e7:=h1.blk.cell 7;simp only[dm,I,au]at e7;have f4:=h1.may i 4 (by show i<(r.pieces.modify i _).length;rw[vI];exact hil) af;obtain⟨h2,k2⟩:=h1.CZ rfl 4 hil af (.int .i64 ((fl:Int)+1)) (fun p=>{p with failed:=fl+1}) (fun p=>{p with id:=0,failed:=fl+1}) (fun _ _=>by simp[dx,I]) (fun _=>rfl) (fun _=>rfl);have k12:=k1.trans k2;have TH:=hide (And.intro h2 k12);clear h1 h2 k1 k2 k12 hcell;go_enter Tryz.func67,Tryz.ntmps67
  go_wp2_with fail
  refine(bH HF).mono ?_;rintro e w1 ⟨rfl,rfl⟩
  go_upto_region 6 with fail
  generalize(w1.setCell ⟨g,i*9+5,none⟩ (.int .i64 0)).setCell ⟨g,i*9+4,none⟩ (.int .i64 ((fl:Int)+1))=W2 at*;have h2:=TH.out.1;clear c7 d5 d4 f5 e4 e7 f4;have c3:=h2.blk.cell 3;have c7:=h2.blk.cell 7;have QV:i<({r with pieces:=r.pieces.modify i fun p=>{p with id:=0,failed:=fl+1} }:Pl.cO).pieces.length:=by show i<(r.pieces.modify i _).length;rw[vI];exact hil
  obtain⟨x2,hx2,hcell2⟩:=h2.piece i QV;have hpi:({r with pieces:=r.pieces.modify i fun p=>{p with id:=0,failed:=fl+1} }:Pl.cO).pieces[i]={r.pieces[i]with id:=0,failed:=fl+1}:=by show(r.pieces.modify i _)[i]'_=_;rw[List.getElem_modify,if_pos rfl]
  have d4:=hcell2 4 af;rw[hpi]at d4;simp only[dm,dx,I,au]at c3 c7 d4;have ec:((fl+1:Nat):Int)=(fl:Int)+1:=af;rw[ec]at d4;clear hcell2 hpi;by_cases hft:fl+1=r.tries
  ·have Xd:(fl:Int)+1=(r.tries:Int):=af;have amR:((fl:Int)+1==(r.tries:Int))=true:=by simp[Xd]
   have HFT:=hide hft;clear Xd hft;go_quiet (fail);have x3:Ext W2 (W2.drewN nq):=ax.drewN nq;have h3:=h2.ext x3;have HK3:=hide (TH.out.2.trans (Kp.cZ x3));generalize W2.drewN nq=W3 at*;clear c3 c7 d4 h2 TH;have c6:=h3.blk.cell 6;have f6:=h3.blk.free 6;simp only[dm,I,au]at c6;have h4:=h3.p8 6 (.int .i64 4) (r':={r with state:=4,pieces:=r.pieces.modify i fun p=>{p with id:=0,failed:=fl+1} }) (by simp[dm,I]) ⟨h3.inn.gP,h3.inn.top,h3.inn.names,h3.inn.iA,h3.inn.pieces,h3.inn.cB,h3.inn.parts,h3.inn.rows,h3.inn.there⟩;have k4:=h3.p9 6 (.int .i64 4);have HH4:=hide (And.intro h4 (HK3.out.trans k4));clear h3 h4 k4
   go_wp2_with fail
   go_ret;have HR:Pl.iV r id=({r with state:=4,pieces:=r.pieces.modify i fun p=>{p with id:=0,failed:=fl+1} },0):=by
    unfold Pl.iV;rw[hfi];simp only;unfold Pl.rA;rw[hpc,hfl,if_pos HFT.out];rw[uE r.pieces i hil (fun p=>{p with id:=0,failed:=p.failed+1}) (fun p=>{p with id:=0,failed:=fl+1}) (by rw[hfl])]
   rw[HR];exact⟨rfl,HH4.out.1,HH4.out.2⟩
  ·have Xd:¬(fl:Int)+1=(r.tries:Int):=af;go_quiet (fail);have x3:Ext W2 (W2.drewN nq):=ax.drewN nq;have h3:=h2.ext x3;have HK3:=hide (TH.out.2.trans (Kp.cZ x3));generalize W2.drewN nq=W3 at*;clear c3 c7 d4 h2 TH;have c10:=h3.blk.cell 10;have f10:=h3.blk.free 10;simp only[dm,I,au]at c10;have h4:=h3.p8 10 (.int .i64 ((r.fails:Int)+1)) (r':={r with fails:=r.fails+1,pieces:=r.pieces.modify i fun p=>{p with id:=0,failed:=fl+1} }) (by simp[dm,I]) ⟨h3.inn.gP,h3.inn.top,h3.inn.names,h3.inn.iA,h3.inn.pieces,h3.inn.cB,h3.inn.parts,h3.inn.rows,h3.inn.there⟩;have k4:=h3.p9 10 (.int .i64 ((r.fails:Int)+1))
   go_upto_region 10 with fail
   generalize W3.setCell ⟨Y,10,none⟩ (.int .i64 ((r.fails:Int)+1))=W4 at*;have c7:=h4.blk.cell 7;have abp:=h4.blk.cell 10;simp only[dm,I,au,Int.natCast_add,Int.natCast_one]at c7 abp;have abq:i<({r with fails:=r.fails+1,pieces:=r.pieces.modify i fun p=>{p with id:=0,failed:=fl+1} }:Pl.cO).pieces.length:=by show i<(r.pieces.modify i _).length;rw[vI];exact hil
   obtain⟨x4,hx4,TI⟩:=h4.piece i abq;have d7:=TI 7 af;simp only[dx,I,au]at d7;have f7:=h4.may i 7 abq af;clear TI c10 f10;obtain⟨h5,k5⟩:=dK.CZ (r:={r with fails:=r.fails+1}) h4 rfl 7 hil af (.int .i64 ((r.fails:Int)+1)) (fun p=>{p with turn:=r.fails+1}) (fun p=>{p with id:=0,failed:=fl+1,turn:=r.fails+1}) (fun _ _=>by simp[dx,I]) (fun _=>rfl) (fun _=>rfl);have HK5:=hide ((HK3.out.trans k4).trans k5)
   go_still_tail 9,mixed
   go_upto_region 11 with fail
   have xd:Ext (W4.setCell ⟨g,i*9+7,none⟩ (.int .i64 ((r.fails:Int)+1))) (W4.setCell ⟨g,i*9+7,none⟩ (.int .i64 ((r.fails:Int)+1))).drew:=ax.drew;have h6:=h5.ext xd;have HK6:=hide (HK5.out.trans (Kp.cZ xd));clear d7 f7 c7 abp h5 k5 HK5 k4 xd;generalize(W4.setCell ⟨g,i*9+7,none⟩ (.int .i64 ((r.fails:Int)+1))).drew=W6 at*;have c7:=h6.blk.cell 7;have c9:=h6.blk.cell 9;simp only[dm,I,au]at c7 c9;have abr:i<({r with fails:=r.fails+1,pieces:=r.pieces.modify i fun p=>{p with id:=0,failed:=fl+1,turn:=r.fails+1} }:Pl.cO).pieces.length:=by show i<(r.pieces.modify i _).length;rw[vI];exact hil
   obtain⟨x6,hx6,LC⟩:=h6.piece i abr;have hpi:({r with fails:=r.fails+1,pieces:=r.pieces.modify i fun p=>{p with id:=0,failed:=fl+1,turn:=r.fails+1} }:Pl.cO).pieces[i]={r.pieces[i]with id:=0,failed:=fl+1,turn:=r.fails+1}:=by show(r.pieces.modify i _)[i]'_=_;rw[List.getElem_modify,if_pos rfl]
   have d4:=LC 4 af;have d6:=LC 6 af;rw[hpi]at d4 d6;simp only[dx,I,au]at d4 d6;rw[ec]at d4;have f6:=h6.may i 6 abr af;clear LC hpi;have EI:2^fl≤2^10:=Nat.pow_le_pow_right af l8;obtain⟨tk,htk⟩:∃tk,tk=2^fl:=⟨_,rfl⟩
   rw[←htk]at EI;have hws:wrap64 ((2:Int)^fl)=(tk:Int):=by
    rw[show(2:Int)^fl=((2^fl:Nat):Int)from aj,←htk];unfold wrap64;omega
   have amS:tk≤1024:=EI;have ewr:IntKind.i64.wrap ((r.now:Int)+(tk:Int))=(r.now:Int)+(tk:Int):=TG (by clear hws EI;omega) (by clear hws EI;omega);obtain⟨h7,k7⟩:=dK.CZ (r:={r with fails:=r.fails+1}) h6 rfl 6 hil af (.int .i64 ((r.now:Int)+(tk:Int))) (fun p=>{p with due:=r.now+tk}) (fun p=>{p with id:=0,failed:=fl+1,turn:=r.fails+1,due:=r.now+tk}) (fun _ _=>by simp[dx,I]) (fun _=>rfl) (fun _=>rfl);have hsh:=aag fl l8;rw[←htk]at hsh;have zn:=hide htk;clear htk;have hS0:W6.drew.cell? ⟨Y,7,none⟩=some (.slice (some ⟨g,0,none⟩) r.pieces.length cap)∧W6.drew.cell? ⟨Y,9,none⟩=some (.int .i64 (r.now:Int))∧W6.drew.cell? ⟨g,i*9+4,none⟩=some (.int .i64 ((fl:Int)+1)):=⟨c7,c9,d4⟩
   refine bZ (n:=22) (fun u=>u.cell? ⟨Y,7,none⟩=some (.slice (some ⟨g,0,none⟩) r.pieces.length cap)∧u.cell? ⟨Y,9,none⟩=some (.int .i64 (r.now:Int))∧u.cell? ⟨g,i*9+4,none⟩=some (.int .i64 ((fl:Int)+1))) (by kernel_rfl) ?_;refine Late.t 0 [22] rfl hS0 ?_;refine Late.t 1 [22] rfl hS0 ?_;refine Late.t 2 [22] rfl hS0 ?_;refine Late.t 3 [22] rfl hS0 ?_;refine Late.t 4 [22] rfl hS0 ?_;refine Late.t 5 [22] rfl hS0 ?_;refine Late.t 6 [22] rfl hS0 ?_;refine Late.t 7 [22] rfl hS0 ?_;refine Late.t 8 [22] rfl hS0 ?_;refine Late.t 9 [22] rfl hS0 ?_;refine Late.t 10 [22] rfl hS0 ?_;refine Late.t 11 [22] rfl hS0 ?_;refine Late.t 12 [22] rfl hS0 ?_;refine Late.t 13 [22] rfl hS0 ?_;refine Late.t 14 [22] rfl hS0 ?_;refine Late.t 15 [22] rfl hS0 ?_;refine Late.t 16 [22] rfl hS0 ?_;refine Late.t 17 [22] rfl hS0 ?_;refine Late.t 18 [22] rfl hS0 ?_;refine Late.t 19 [22] rfl hS0 ?_;refine Late.t 20 [21,22] rfl hS0 ?_;refine Late.t 21 [22] rfl hS0 ?_;refine Late.o 22 rfl (fun K hK=>?_);go_simp;refine hK _ _ (fun h=>absurd rfl h) ?_;clear hK K;try simp only[lX]
   refine Late.done (by kernel_rfl) ?_ _;have Jd:Ext (W6.setCell ⟨g,i*9+6,none⟩ (.int .i64 ((r.now:Int)+(tk:Int)))) (W6.setCell ⟨g,i*9+6,none⟩ (.int .i64 ((r.now:Int)+(tk:Int)))).drew:=ax.drew;have Je:=hide (And.intro (h7.ext Jd) ((HK6.out.trans k7).trans (Kp.cZ Jd)));clear h7 k7 h6 Jd
   go_wp2_with fail
   go_ret;have HR:Pl.iV r id=({r with fails:=r.fails+1,pieces:=r.pieces.modify i fun p=>{p with id:=0,failed:=fl+1,turn:=r.fails+1,due:=r.now+tk} },0):=by
    unfold Pl.iV;rw[hfi];simp only;unfold Pl.rA;rw[hpc,hfl,if_neg hft];rw[uE r.pieces i hil (fun p=>{p with id:=0,failed:=p.failed+1,turn:=r.fails+1,due:=r.now+2^p.failed}) (fun p=>{p with id:=0,failed:=fl+1,turn:=r.fails+1,due:=r.now+tk}) (by rw[hfl,zn.out])]
   rw[HR];exact⟨rfl,Je.out.1,Je.out.2⟩
end Go.Proofs.YthicgffppmbamaaGreat
