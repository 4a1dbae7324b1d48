import Derived.Test.YthicgffppmbamaaGreatProg
import Derived.WalkKit
import Derived.Deep.Upon
import Derived.Deep.Draws
import Derived.Deep.DeepMust
import Derived.Laws.CopyOwn
import Derived.Laws.EntriesVeiled
import Derived.Deep.RegionWith
import Derived.Deep.DeepCutAuto
import Derived.Deep.RegionLaw
import Derived.OrdersHeld
import Derived.StillTail
import Derived.Lib.Strings
import Derived.Lib.BufferWrite
import Derived.Lib.UnsafeStr
import Derived.Laws.MakeOwn
set_option maxRecDepth 100000
set_option maxHeartbeats 16000000
namespace Go.Proofs.YthicgffppmbamaaGreat
open Go.RowKit
theorem af {p:Prop}(h:p:=by omega):p:=h
theorem aj {p:Prop}(h:p:=by simp):p:=h
theorem au :(∀(α:Type)(a:α)(l:List α),(a::l)[0]?=some a)∧∀(α:Type)(a:α)(l:List α)(i:Nat),(a::l)[i+1]?=l[i]?:=⟨fun _ _ _=>rfl,fun _ _ _ _=>rfl⟩
theorem ay {α:Type}{l:List α}{i:Nat}(h:i<l.length):l[i]?=some l[i]:=List.getElem?_eq_getElem h
theorem aA {α:Type}{a:α}{l:List α}:(a::l)[0]?=some a:=List.getElem?_cons_zero
theorem aB {α:Type}{a:α}{i:Nat}{l:List α}:(a::l)[i+1]?=l[i]?:=List.getElem?_cons_succ
theorem aC {α:Type}{l:List α}{i:Nat}{a:α}:l.getD i a=l[i]?.getD a:=List.getD_eq_getElem?_getD
theorem aD {α:Type}{xs ys:List α}:(xs++ys).length=xs.length+ys.length:=List.length_append
theorem aF {α:Type}{i:Nat}{l:List α}(h:i<l.length):l.take (i+1)=l.take i++[l[i]]:=List.take_succ_eq_append_getElem h
theorem aG {p:Prop}[inst:Decidable p](h:¬p):decide p=false:=decide_eq_false h
theorem aH {p:Prop}[inst:Decidable p](h:p):decide p=true:=decide_eq_true h
theorem aI {α:Type}{a:α}{s t:List α}:a∈s++t↔a∈s∨a∈t:=List.mem_append
theorem aJ {α:Type}{l:List α}{n:Nat}(h:n<l.length):l[n]∈l:=List.getElem_mem h
theorem aK (n:Nat):n≤n:=Nat.le_refl n
theorem aL {α:Type}{i:Nat}{a:α}{l:List α}:l[i]?=some a↔∃h:i<l.length,l[i]=a:=List.getElem?_eq_some_iff
theorem aM (n:Nat):0≤n:=Nat.zero_le n
theorem aN {α β:Type}{f:α→β}{l:List α}{i:Nat}:(l.map f)[i]?=l[i]?.map f:=List.getElem?_map
theorem aO {n m k:Nat}(h:n≤m)(h':m≤k):n≤k:=Nat.le_trans h h'
theorem aP {α:Type}{l₁ l₂:List α}{i:Nat}(h:l₁.length≤i):(l₁++l₂)[i]?=l₂[i-l₁.length]?:=List.getElem?_append_right h
theorem aQ {α β:Type}{xs:List α}(f:α→β):(xs.map f).length=xs.length:=List.length_map f
theorem aR {α:Type}{a:α}{xs:List α}:(a::xs).length=xs.length+1:=List.length_cons
theorem aS {α:Type}{l₁ l₂:List α}{i:Nat}(h:i<l₁.length):(l₁++l₂)[i]?=l₁[i]?:=List.getElem?_append_left h
theorem aT {α:Type}{l:List α}(h:l.length=0):l=[]:=List.eq_nil_of_length_eq_zero h
theorem aU {α:Type}{i:Nat}{l:List α}:(l.take i).length=min i l.length:=List.length_take
theorem aV {α:Type}{i:Nat}{l:List α}(h:i<l.length):l.drop i=l[i]::l.drop (i+1):=List.drop_eq_getElem_cons h
theorem aW {α:Type}(xs ys zs:List α):xs++ys++zs=xs++(ys++zs):=List.append_assoc xs ys zs
theorem aX {α:Type}{l:List α}:l.take l.length=l:=List.take_length
theorem aY {n m k:Nat}(h:n<m)(h':m≤k):n<k:=Nat.lt_of_lt_of_le h h'
theorem aZ {α:Type}{a b:α}:a∈[b]↔a=b:=List.mem_singleton
theorem a_ {α β:Type}{f:α→β}{l₁ l₂:List α}:(l₁++l₂).map f=l₁.map f++l₂.map f:=List.map_append
theorem bn {α:Type}{l:List α}{i:Nat}(h:l.length≤i):l[i]?=none:=List.getElem?_eq_none h
theorem bq {α:Type}{i:Nat}{l:List α}:(l.drop i).length=l.length-i:=List.length_drop
namespace Pl
def vw :Nat→Nat→List UInt8
 |0,n=>[UInt8.ofNat n]
 |f+1,n=>if n<128 then[UInt8.ofNat n]else UInt8.ofNat (n%128+128)::vw f (n/128)
theorem WH (f:Nat):∀g n,n≤f→n≤g→vw f n=vw g n:=by
 induction f with
 |zero=>
  intro g n h1 h2;obtain rfl:n=0:=af;cases g<;>simp[vw]
 |succ f ih=>
  intro g n h1 h2;cases g with
  |zero=>
   obtain rfl:n=0:=af;simp[vw]
  |succ g=>
   simp only[vw];by_cases h:n<128
   ·simp[h]
   ·simp only[h,if_false];rw[ih g (n/128) af af]
def dG (n:Nat):List UInt8:=vw n n
theorem CR (n:Nat)(h:n<128):dG n=[UInt8.ofNat n]:=by
 unfold dG;cases n<;>simp[vw,h]
theorem Hf (n:Nat)(h:128≤n):dG n=UInt8.ofNat (n%128+128)::dG (n/128):=by
 unfold dG;cases n with
 |zero=>omega
 |succ m=>
  simp only[vw,show¬(m+1<128)from af,if_false];rw[WH m ((m+1)/128) ((m+1)/128) af af]
theorem eB (k:Nat):∀n,n<128^(k+1)→(dG n).length≤k+1:=by
 induction k with
 |zero=>intro n h;rw[CR n (by simpa using h)];simp
 |succ k ih=>
  intro n h;by_cases h1:n<128
  ·rw[CR n h1];simp
  ·rw[Hf n af];have:=ih (n/128) (by rw[Nat.pow_succ]at h;omega);simp;omega
def qY (h:Nat)(b:UInt8):Nat:=((h^^^b.toNat)*16777619)%4294967296
def y8 (h:Nat):List UInt8→Nat
 |[]=>h
 |b::r=>y8 (qY h b) r
theorem KP (l:List UInt8)(b:UInt8):∀h,y8 h (l++[b])=qY (y8 h l) b:=by
 induction l with
 |nil=>intro h;rfl
 |cons c r ih=>intro h;exact ih _
theorem Qq (h:Nat)(b:UInt8):qY h b<4294967296:=by
 unfold qY;exact Nat.mod_lt _ af
theorem Qr (l:List UInt8):∀h,h<4294967296→y8 h l<4294967296:=by
 induction l with
 |nil=>intro h hh;exact hh
 |cons c r ih=>intro h _;exact ih _ (Qq _ _)
def sumOf (l:List UInt8):Nat:=y8 2166136261 l
theorem sW (l:List UInt8):sumOf l<4294967296:=by
 unfold sumOf;exact Qr l _ af
def dz (h:Nat):List UInt8:=
 [UInt8.ofNat (h/16777216),UInt8.ofNat (h/65536%256),UInt8.ofNat (h/256%256),UInt8.ofNat (h%256)]
def oM (l:List UInt8):List UInt8:=dz (sumOf l)
theorem zK (l:List UInt8):(oM l).length=4:=by
 unfold oM dz;simp only[aR,List.length_nil]
def plain (l:List Int):List UInt8:=l.flatMap fun x=>dG x.toNat
theorem Qs (l:List Int)(x:Int):plain (l++[x])=plain l++dG x.toNat:=by simp[plain]
def iw (x:Int):List Int→Nat
 |[]=>0
 |y::r=>if y=x then iw x r+1 else 0
theorem IL (x:Int)(l:List Int):iw x l≤l.length:=by
 induction l with
 |nil=>simp[iw]
 |cons y r ih=>simp only[iw];split<;>simp<;>omega
def vz :Nat→List Int→List UInt8
 |0,_=>[]
 |_+1,[]=>[]
 |f+1,x::r=>dG (iw x r+1)++dG x.toNat++vz f (r.drop (iw x r))
theorem WI (f:Nat):∀g l,l.length≤f→l.length≤g→vz f l=vz g l:=by
 induction f with
 |zero=>
  intro g l h1 h2;obtain rfl:l=[]:=aT af;cases g<;>simp[vz]
 |succ f ih=>
  intro g l h1 h2;cases l with
  |nil=>cases g<;>simp[vz]
  |cons x r=>
   cases g with
   |zero=>simp at h2
   |succ g=>
    simp only[vz];rw[ih g _ (by simp at*;omega) (by simp at*;omega)]
def runs (l:List Int):List UInt8:=vz l.length l
theorem zL :runs []=[]:=rfl
theorem A8 (x:Int)(r:List Int):runs (x::r)=dG (iw x r+1)++dG x.toNat++runs (r.drop (iw x r)):=by
 show vz (r.length+1) (x::r)=_;simp only[vz];rw[WI r.length (r.drop (iw x r)).length _ aj (aK _)];rfl
def rises :Int→List Int→Bool
 |_,[]=>true
 |a,x::r=>decide (a≤x)&&rises x r
def rising :Int→List Int→List UInt8
 |_,[]=>[]
 |a,x::r=>dG (x-a).toNat++rising x r
def page (l:List Int):List UInt8:=
 let p0:=(0:UInt8)::plain l;let p1:=(1:UInt8)::runs l;let p2:=(2:UInt8)::rising 0 l;let b1:=if p1.length<p0.length then p1 else p0
 if rises 0 l=true∧p2.length<b1.length then p2 else b1
def sZ (st:List UInt8×List UInt8)(xs:List Int):List UInt8×List UInt8:=
 (st.1++page xs,st.2++dG st.1.length++dG (page xs).length++oM (page xs))
def mH (st:List UInt8×List UInt8):List (List Int)→List UInt8×List UInt8
 |[]=>st
 |x::r=>mH (sZ st x) r
theorem Ff (l:List (List Int))(x:List Int):∀st,mH st (l++[x])=sZ (mH st l) x:=by
 induction l with
 |nil=>intro st;rfl
 |cons y r ih=>intro st;exact ih _
def rT (st:List UInt8×List UInt8)(g:List (List Int)):List UInt8×List UInt8:=mH (st.1,st.2++dG (g.getD 0 []).length) g
def mI (st:List UInt8×List UInt8):List (List (List Int))→List UInt8×List UInt8
 |[]=>st
 |g::r=>mI (rT st g) r
theorem Fg (l:List (List (List Int)))(x:List (List Int)):∀st,mI st (l++[x])=rT (mI st l) x:=by
 induction l with
 |nil=>intro st;rfl
 |cons y r ih=>intro st;exact ih _
def nameBytes (ss:List (List UInt8)):List UInt8:=ss.flatMap fun s=>dG s.length++s
theorem y9 (ss:List (List UInt8))(s:List UInt8):nameBytes (ss++[s])=nameBytes ss++(dG s.length++s):=by simp[nameBytes]
def mark :List UInt8:=[67,79,76,49]
def parts (names:List (List UInt8))(gs:List (List (List Int))):List UInt8×List UInt8:=
 mI (mark,dG names.length++nameBytes names++dG gs.length) gs
def whole (p:List UInt8×List UInt8):List UInt8:=p.1++p.2++[UInt8.ofNat (p.2.length/256),UInt8.ofNat (p.2.length%256)]++mark
def y_ (s:List UInt8):Bool:=decide (1≤s.length)&&decide (s.length≤8)
def fJ (ss:List (List UInt8)):Bool:=decide (1≤ss.length)&&decide (ss.length≤4)&&ss.all y_&&decide (ss.Nodup)
def mJ (x:Int):Bool:=decide (0≤x)&&decide (x≤1099511627775)
def lY (bD:Nat)(g:List (List Int)):Bool:=
 decide (g.length=bD)&&decide (1≤(g.getD 0 []).length)&&decide ((g.getD 0 []).length≤20)&&g.all fun l=>decide (l.length=(g.getD 0 []).length)&&l.all mJ
def lC (names:List (List UInt8))(gs:List (List (List Int))):Bool:=fJ names&&decide (gs.length≤6)&&gs.all (lY names.length)
def sealed (p:List UInt8×List UInt8):List UInt8×Int:=if(whole p).length≤4000 then(whole p,0)else([],1)
theorem IQ (p:List UInt8×List UInt8)(h:(whole p).length≤4000):sealed p=(whole p,0):=by unfold sealed;rw[if_pos h]
theorem IU (p:List UInt8×List UInt8)(h:4000<(whole p).length):sealed p=([],1):=by unfold sealed;rw[if_neg af]
def write (names:List (List UInt8))(gs:List (List (List Int))):List UInt8×Int:=
 if lC names gs=true then sealed (parts names gs)else([],1)
end Pl
theorem hide {p:Prop}(h:p):Hid p:=h
theorem bH {p:Prop}(h:Hid p):p:=h
structure Kp (S:Nat→Prop)(w w':World):Prop where
 os:w'.os=w.os
 tape:w'.tape=w.tape
 output:w'.output=w.output
 size:w.heap.size≤w'.heap.size
 block:∀k,k<w.heap.size→¬S k→w'.heap[k]?=w.heap[k]?
abbrev Ext (w w':World):Prop:=Kp (fun _=>False) w w'
abbrev Of (v:Value):Nat→Prop:=fun k=>v.ownBlock=some k
abbrev From (B:Nat):Nat→Prop:=fun k=>B≤k
theorem Kp.refl (S:Nat→Prop)(w:World):Kp S w w:=⟨rfl,rfl,rfl,aK _,fun _ _ _=>rfl⟩
theorem ax {S:Nat→Prop}{w:World}:Kp S w w:=Kp.refl S w
theorem Kp.mono {S S':Nat→Prop}{w w':World}(h:Kp S w w')(hs:∀k,k<w.heap.size→S k→S' k):Kp S' w w':=
 ⟨h.os,h.tape,h.output,h.size,fun k hk hn=>h.block k hk (fun hS=>hn (hs k hk hS))⟩
theorem Kp.trans {S:Nat→Prop}{a b c:World}(h:Kp S a b)(k:Kp S b c):Kp S a c:=
 ⟨k.os.trans h.os,k.tape.trans h.tape,k.output.trans h.output,aO h.size k.size,fun i hi hn=>(k.block i (aY hi h.size) hn).trans (h.block i hi hn)⟩
theorem Kp.cZ {S:Nat→Prop}{w w':World}(h:Ext w w'):Kp S w w':=h.mono (fun _ _ f=>f.elim)
theorem Kp.alloc {S:Nat→Prop}{a w:World}(h:Kp S a w)(o:Obj):Kp S a (w.alloc o):=
 h.trans ⟨rfl,rfl,rfl,aj,fun k hk _=>Below.heap_alloc _ _ _ hk⟩
theorem Kp.drew {S:Nat→Prop}{a w:World}(h:Kp S a w):Kp S a w.drew:=⟨h.os,h.tape,h.output,h.size,h.block⟩
theorem Kp.drewN {S:Nat→Prop}{a w:World}(h:Kp S a w)(n:Nat):Kp S a (w.drewN n):=⟨h.os,h.tape,h.output,h.size,h.block⟩
theorem Kp.setCell {S:Nat→Prop}{a w:World}(h:Kp S a w){p:Addr}(hp:S p.block∨a.heap.size≤p.block)(u:Value):Kp S a (w.setCell p u):=by
 refine⟨h.os,h.tape,h.output,by simp[World.setCell];exact h.size,fun k hk hn=>?_⟩;rw[Below.heap_setCell _ _ _ _ (fun e=>by subst e;rcases hp with hp|hp;exact hn hp;omega)];exact h.block k hk hn
theorem Kp.cell {S:Nat→Prop}{w w':World}(h:Kp S w w'){a:Addr}{v:Value}(hc:w.cell? a=some v)(hn:¬S a.block):w'.cell? a=some v:=
 (World.cell?_of_block (h.block a.block (World.block_lt_of_cell? w a hc) hn)).trans hc
theorem Kp.then {S S':Nat→Prop}{w w1 w2:World}(h:Kp S w w1)(k:Kp S' w1 w2)(hs:∀i,i<w.heap.size→S' i→S i):Kp S w w2:=
 ⟨k.os.trans h.os,k.tape.trans h.tape,k.output.trans h.output,aO h.size k.size,fun i hi hn=>(k.block i (aY hi h.size) (fun e=>hn (hs i hi e))).trans (h.block i hi hn)⟩
theorem Ext.below {w w':World}(h:Ext w w'):Below w.heap.size w w':=⟨h.os,h.tape,h.output,h.size,fun k hk=>h.block k hk id⟩
def B (b:UInt8):Value:=.int .u8 b.toNat
theorem YH (bs:List UInt8):∀u∈bs.map B,u.oneCell'=true:=by
 intro u hu;obtain⟨_,_,rfl⟩:=List.mem_map.1 hu;rfl
def dZ (w:World)(v:Value)(bs:List UInt8):Prop:=
 (v=.slice none 0 0∧bs=[])∨∃g cap,v=.slice (some ⟨g,0,none⟩) bs.length cap∧bs.length≤cap∧cap≤maxLen∧g<w.heap.size∧
  (∀j,j<bs.length→w.cell? ⟨g,j,none⟩=(bs.map B)[j]?)∧(∀j,j<cap→(w.cell? ⟨g,j,none⟩).isSome=true∧w.frozen? ⟨g,j,none⟩=false)
def Sep (w:World)(v v':Value):Prop:=v'.ownBlock=v.ownBlock∨∃g,v'.ownBlock=some g∧w.heap.size≤g
theorem Sep.refl (w:World)(v:Value):Sep w v v:=.inl rfl
theorem Sep.trans {w w1:World}{v v1 v2:Value}(hz:w.heap.size≤w1.heap.size)(h:Sep w v v1)(k:Sep w1 v1 v2):Sep w v v2:=by
 rcases k with k|⟨g,k1,k2⟩
 ·rcases h with h|⟨g,h1,h2⟩
  ·exact .inl (k.trans h)
  ·exact .inr ⟨g,k.trans h1,h2⟩
 ·exact .inr ⟨g,k1,af⟩
theorem Sep.mono {w w1:World}{v v1:Value}(hz:w.heap.size≤w1.heap.size)(k:Sep w1 v v1):Sep w v v1:=Sep.trans hz (Sep.refl w v) k
theorem dZ.kept {w w':World}{S:Nat→Prop}{v:Value}{bs:List UInt8}(h:dZ w v bs)(k:Kp S w w')(hn:∀g,v.ownBlock=some g→¬S g):dZ w' v bs:=by
 rcases h with h|⟨g,cap,rfl,h1,h2,h3,h4,h5⟩
 ·exact .inl h
 ·have e:=k.block g h3 (hn g rfl);refine .inr ⟨g,cap,rfl,h1,h2,aY h3 k.size,fun j hj=>?_,fun j hj=>?_⟩
  ·rw[World.cell?_of_block (w:=w) (a:=⟨g,j,none⟩) e];exact h4 j hj
  ·rw[World.cell?_of_block (w:=w) (a:=⟨g,j,none⟩) e,World.frozen?_of_block (w:=w) (a:=⟨g,j,none⟩) e];exact h5 j hj
theorem dZ.ext {w w':World}{v:Value}{bs:List UInt8}(h:dZ w v bs)(k:Ext w w'):dZ w' v bs:=h.kept k (fun _ _ f=>f)
theorem dZ.lt {w:World}{v:Value}{bs:List UInt8}(h:dZ w v bs){g:Nat}(hg:v.ownBlock=some g):g<w.heap.size:=by
 rcases h with⟨rfl,_⟩|⟨g',cap,rfl,_,_,h3,_⟩
 ·simp[Value.ownBlock]at hg
 ·simp[Value.ownBlock]at hg;omega
theorem dZ.shape {w:World}{v:Value}{bs:List UInt8}(h:dZ w v bs):∃ao cap,v=.slice ao bs.length cap:=by
 rcases h with⟨rfl,rfl⟩|⟨g',cap,rfl,_⟩
 ·exact⟨_,_,rfl⟩
 ·exact⟨_,_,rfl⟩
theorem dZ.shape' {w:World}{v:Value}{bs:List UInt8}(h:dZ w v bs):∃ao n cap,v=.slice ao n cap∧Hid (n=bs.length):=by
 obtain⟨ao,cap,rfl⟩:=h.shape;exact⟨_,_,_,rfl,rfl⟩
theorem dZ.nil (w:World):dZ w (.slice none 0 0) []:=.inl ⟨rfl,rfl⟩
theorem info5 :(Tryz.prog.info? 5).map (fun i=>(i.zero,i.size,i.bytes))=some (some (.int .u8 0),1,1):=by kernel_rfl
theorem A9 (w:World)(v:Value)(bs:List UInt8)(hown:dZ w v bs)(tx ty:TypeId)(x:Value)(n:Nat)(news:List UInt8)(hs:Src Tryz.prog 1 tx x n (news.map B) w)(hb:bs.length+n≤1000000):
 ∃v' w',(Builtin.append_ #[76,tx] ty #[v,x]).run Tryz.prog w=.ok v' w'∧dZ w' v' (bs++news)∧Kp (Of v) w w'∧Sep w v v':=by
 obtain⟨i0,hi,hz0,hz1,hz2⟩:=info_parts info5;have hs':Src Tryz.prog i0.size tx x n (news.map B) w:=by rw[hz1];exact hs
 have hnl:news.length=n:=by simpa using hs.newsLen
 have grow:∀(base:Option Addr)(cap:Nat),v=.slice base bs.length cap→cap<bs.length+n→(Builtin.firstCells i0.size bs.length (.slice base bs.length cap)).run Tryz.prog w.drew=.ok (bs.map B).toArray w.drew→
  ∃v' w',(Builtin.append_ #[76,tx] ty #[v,x]).run Tryz.prog w=.ok v' w'∧dZ w' v' (bs++news)∧Kp (Of v) w w'∧Sep w v v':=by
  rintro base cap rfl hg hold;have hrun:=run_append_grow_src (P:=Tryz.prog) w 76 tx ty 5 i0 (.int .u8 0) Tryz.underlying76 hi hz0 base bs.length cap (bs.map B) hold x n (news.map B) hs' hg af (growslice_fits hg (by rw[hz2];omega));have hge:=grownCap_ge w (bs.length+n) cap 5;have hcm:=grownCap_le_maxLen w (bs.length+n) cap 5 (by unfold maxLen;omega);have hsz:((bs.map B++news.map B).toArray++Builtin.zeroCells (Value.int .u8 0).cells (grownCap w (bs.length+n) cap 5-(bs.length+n))).size=grownCap w (bs.length+n) cap 5:=by
   rw[Array.size_append,size_zeroCells];simp only[List.size_toArray,aD,aQ,hnl];have:(Value.int .u8 0).cells.size=1:=rfl;rw[this];omega
  refine⟨_,_,hrun,.inr ⟨w.heap.size,_,by rw[aD,hnl],by rw[aD,hnl];exact hge,hcm,aj,fun j hj=>?_,fun j hj=>⟨?_,?_⟩⟩,Kp.alloc (Kp.drew ax) _,.inr ⟨_,rfl,aK _⟩⟩
  ·have e1:=World.cell?_alloc_new w.drew ((bs.map B++news.map B).toArray++Builtin.zeroCells (Value.int .u8 0).cells (grownCap w (bs.length+n) cap 5-(bs.length+n))) 5 j;have e2:w.drew.heap.size=w.heap.size:=rfl;rw[e2]at e1;rw[e1,Array.getElem?_append_left (by simpa using hj),List.getElem?_toArray,a_]
  ·have e1:=World.cell?_alloc_new w.drew ((bs.map B++news.map B).toArray++Builtin.zeroCells (Value.int .u8 0).cells (grownCap w (bs.length+n) cap 5-(bs.length+n))) 5 j;have e2:w.drew.heap.size=w.heap.size:=rfl;rw[e2]at e1;rw[e1,Array.getElem?_eq_getElem (by rw[hsz];exact hj)];rfl
  ·exact World.frozen?_alloc_new w.drew _ _ j
 rcases hown with⟨rfl,rfl⟩|⟨g,cap,rfl,h1,h2,h3,h4,h5⟩
 ·by_cases hn:n=0
  ·subst hn;obtain rfl:news=[]:=aT hnl;exact⟨_,_,run_append_nothing (P:=Tryz.prog) w 76 tx ty 5 i0 Tryz.underlying76 hi none 0 0 (aK _) x hs',.inl ⟨rfl,rfl⟩,Kp.refl _ _,Sep.refl _ _⟩
  ·exact grow none 0 rfl (by simp;omega) (run_firstCells_none w.drew _ _ _ _)
 ·by_cases hfit:bs.length+n≤cap
  ·have hrun:=run_append_room_src (P:=Tryz.prog) w 76 tx ty 5 i0 Tryz.underlying76 hi g 0 bs.length cap x n (news.map B) hs' hfit
    (fun j hj=>by rw[hz1];simp at hj⊢;exact(h5 _ af).1) (fun j hj=>by rw[hz1];simp at hj⊢;exact(h5 _ af).2)
   rw[hz1]at hrun;simp only[Nat.zero_add,Nat.mul_one]at hrun;refine⟨_,_,hrun,.inr ⟨g,cap,by rw[aD,hnl],by rw[aD,hnl];exact hfit,h2,?_,fun j hj=>?_,fun j hj=>⟨?_,?_⟩⟩,?_,.inl rfl⟩
   ·have:=(World.keptBut_setCells g (may:=fun _=>True) (news.map B) bs.length w (fun _ _=>trivial)).size;omega
   ·by_cases hj1:j<bs.length
    ·rw[World.cell?_setCells_out g _ _ _ _ (fun _ _=>Or.inl hj1),a_,aS (by simpa using hj1)];exact h4 j hj1
    ·have:=World.cell?_setCells_in g (news.map B) bs.length w (fun j' hj'=>(h5 _ (by simp at hj';omega)).1) (j-bs.length) (by simp at hj⊢;omega);rw[show bs.length+(j-bs.length)=j from af]at this;rw[this,a_,aP (by simp;omega),ay (by simp at hj⊢;omega)];simp
   ·by_cases hj1:j<bs.length∨bs.length+n≤j
    ·rw[World.cell?_setCells_out g _ _ _ _ (fun _ _=>by simp[hnl];omega)];exact(h5 j hj).1
    ·have:=World.cell?_setCells_in g (news.map B) bs.length w (fun j' hj'=>(h5 _ (by simp at hj';omega)).1) (j-bs.length) (by simp at hj⊢;omega);rw[show bs.length+(j-bs.length)=j from af]at this;rw[this];rfl
   ·rw[World.frozen?_setCells];exact(h5 j hj).2
   ·have hkb:=World.keptBut_setCells g (may:=fun _=>True) (news.map B) bs.length w (fun _ _=>trivial);refine⟨World.os_setCells _ _ _ _,?_,World.output_setCells _ _ _ _,hkb.size,fun k hk hn=>World.heap_setCells_other _ _ _ _ hk (fun e=>hn (by subst e;rfl))⟩;have ht:∀(l:List Value)(o:Nat)(u:World),(u.setCells g o l).tape=u.tape:=by
     intro l;induction l with
     |nil=>intro o u;rfl
     |cons y r ih=>intro o u;rw[World.setCells,ih];rfl
    exact ht _ _ _
  ·refine grow (some ⟨g,0,none⟩) cap rfl af ?_;rw[hz1];exact run_firstCells_some w.drew 1 bs.length ⟨g,0,none⟩ _ _ (bs.map B) aj (fun j u hu=>by
    have hj:=(aL.1 hu).1;simp at hj;have:=h4 j hj;rw[hu]at this;rw[Addr.add_lit,Nat.zero_add];exact this)
theorem jq (w:World){ops:Array Oper}{rest:List Oper}{o:Oper}{a:Act}{Q:Exit→Act→World→Prop}(hgd:o.guard=none)(s x:Operand)(tx:TypeId)
 (ho:o.op=.call {callee:=.builtin .append,args:=#[s,x],argTypes:=#[76,tx]})
 (v:Value)(bs:List UInt8)(hv:a.eval s=v)(hown:dZ w v bs)(xv:Value)(hx:a.eval x=xv)(n:Nat)(news:List UInt8)(hs:Src Tryz.prog 1 tx xv n (news.map B) w)(hb:bs.length+n≤1000000)
 (hK:∀v' w',dZ w' v' (bs++news)→Kp (Of v) w w'→Sep w v v'→wpList Tryz.prog ops Q rest (a.put o.dst v') w'):wpList Tryz.prog ops Q (o::rest) a w:=by
 refine wpList_plain hgd fun K hK'=>?_
 obtain⟨v',w',hrun,r1,r2,r3⟩:=A9 w v bs hown tx o.type xv n news hs hb;unfold Oper.wp;simp[execOp,ho,resolve,invoke,builtin,hv,hx,hrun,Result.andThen];exact hK' _ _ (hK v' w' r1 r2 r3)
def Rd (B:Nat)(w:World)(v:Value)(cs:List Value):Prop:=
 ∃ao cap,v=.slice ao cs.length cap∧cs.length≤cap∧cs.length≤17592186044416∧(0<cs.length→∃b off,ao=some ⟨b,off,none⟩∧b<B∧∀j,j<cs.length→w.cell? ⟨b,off+j,none⟩=cs[j]?)
theorem Rd.kept {B:Nat}{S:Nat→Prop}{w w':World}{v:Value}{cs:List Value}(h:Rd B w v cs)(k:Kp S w w')(hS:∀i,S i→B≤i):Rd B w' v cs:=by
 obtain⟨ao,cap,rfl,h1,h2,h3⟩:=h;refine⟨ao,cap,rfl,h1,h2,fun hp=>?_⟩;obtain⟨b,off,rfl,hb,hc⟩:=h3 hp;refine⟨b,off,rfl,hb,fun j hj=>?_⟩;have:=hc j hj;rw[ay hj]at this⊢;exact k.cell this (fun e=>by have:=hS _ e;simp at this;omega)
theorem Rd.mono {B B':Nat}{w:World}{v:Value}{cs:List Value}(h:Rd B w v cs)(hB:B≤B'):Rd B' w v cs:=by
 obtain⟨ao,cap,rfl,h1,h2,h3⟩:=h;exact⟨ao,cap,rfl,h1,h2,fun hp=>let⟨b,off,e,hb,hc⟩:=h3 hp;⟨b,off,e,af,hc⟩⟩
theorem Rd.drop {B:Nat}{w:World}{b off L cap q:Nat}{cs:List Value}(h:Rd B w (.slice (some ⟨b,off,none⟩) L cap) cs)(hL:cs.length=L)(hq:q≤L):
 Rd B w (.slice (if cap=q then some ⟨b,off,none⟩else some ⟨b,off+q,none⟩) (L-q) (cap-q)) (cs.drop q):=by
 obtain⟨ao,cap',e,h1,h2,h3⟩:=h;simp only[Value.slice.injEq]at e;obtain⟨rfl,_,rfl⟩:=e;refine⟨_,cap-q,by rw[bq,hL],by rw[bq];omega,by rw[bq];omega,fun hp=>?_⟩;rw[bq]at hp;obtain⟨b',off',e,hb,hc⟩:=h3 af;simp only[Option.some.injEq,Addr.mk.injEq]at e;obtain⟨rfl,rfl,_⟩:=e;refine⟨b,off+q,by rw[if_neg af],hb,fun j hj=>?_⟩;rw[bq]at hj;rw[Nat.add_assoc,hc (q+j) af,List.getElem?_drop]
theorem Rd.take {B:Nat}{w:World}{ao:Option Addr}{L cap q:Nat}{cs:List Value}(h:Rd B w (.slice ao L cap) cs)(hL:cs.length=L)(hq:q≤L):Rd B w (.slice ao q cap) (cs.take q):=by
 obtain⟨KQ,cap',e,h1,h2,h3⟩:=h;simp only[Value.slice.injEq]at e;obtain⟨rfl,_,rfl⟩:=e;have hl:(cs.take q).length=q:=by rw[aU];omega
 refine⟨ao,cap,by rw[hl],af,af,fun hp=>?_⟩;obtain⟨b',off',e,hb,hc⟩:=h3 af;refine⟨b',off',e,hb,fun j hj=>?_⟩;rw[hc j af,List.getElem?_take_of_lt af]
def I (x:Int):Value:=.int .i64 x
abbrev jD (B:Nat)(w:World)(v:Value)(xs:List Int):Prop:=Rd B w v (xs.map I)
abbrev h_ (B:Nat)(w:World)(v:Value)(ss:List ByteArray):Prop:=Rd B w v (ss.map Value.string)
theorem jD.open {B:Nat}{w:World}{v:Value}{xs:List Int}(h:jD B w v xs):∃ao cap,v=.slice ao xs.length cap∧xs.length≤cap∧xs.length≤17592186044416∧
 (0<xs.length→∃b off,ao=some ⟨b,off,none⟩∧b<B∧∀j,j<xs.length→w.cell? ⟨b,off+j,none⟩=some (.int .i64 (xs.getD j 0))):=by
 obtain⟨ao,cap,rfl,h1,h2,h3⟩:=h;simp only[aQ]at h1 h2 h3⊢;refine⟨ao,cap,rfl,h1,h2,fun hp=>?_⟩;obtain⟨b,off,rfl,hb,hc⟩:=h3 hp;exact⟨b,off,rfl,hb,fun j hj=>by rw[hc j hj];simp[I,ay hj]⟩
theorem h_.open {B:Nat}{w:World}{v:Value}{xs:List ByteArray}(h:h_ B w v xs):∃ao cap,v=.slice ao xs.length cap∧xs.length≤cap∧xs.length≤17592186044416∧
 (0<xs.length→∃b off,ao=some ⟨b,off,none⟩∧b<B∧∀j,j<xs.length→w.cell? ⟨b,off+j,none⟩=some (.string (xs.getD j ByteArray.empty))):=by
 obtain⟨ao,cap,rfl,h1,h2,h3⟩:=h;simp only[aQ]at h1 h2 h3⊢;refine⟨ao,cap,rfl,h1,h2,fun hp=>?_⟩;obtain⟨b,off,rfl,hb,hc⟩:=h3 hp;exact⟨b,off,rfl,hb,fun j hj=>by rw[hc j hj];simp[ay hj]⟩
def ql (B:Nat)(w:World)(v:Value)(xss:List (List Int)):Prop:=
 ∃vs:List Value,Rd B w v vs∧vs.length=xss.length∧∀(i:Nat)(x:Value)(xs:List Int),vs[i]?=some x→xss[i]?=some xs→jD B w x xs
def jy (B:Nat)(w:World)(v:Value)(gs:List (List (List Int))):Prop:=
 ∃vs:List Value,Rd B w v vs∧vs.length=gs.length∧∀(i:Nat)(x:Value)(xs:List (List Int)),vs[i]?=some x→gs[i]?=some xs→ql B w x xs
theorem ql.kept {B:Nat}{S:Nat→Prop}{w w':World}{v:Value}{xss:List (List Int)}(h:ql B w v xss)(k:Kp S w w')(hS:∀i,S i→B≤i):ql B w' v xss:=by
 obtain⟨vs,h1,h2,h3⟩:=h;exact⟨vs,h1.kept k hS,h2,fun i x xs a b=>(h3 i x xs a b).kept k hS⟩
theorem jy.kept {B:Nat}{S:Nat→Prop}{w w':World}{v:Value}{xss:List (List (List Int))}(h:jy B w v xss)(k:Kp S w w')(hS:∀i,S i→B≤i):jy B w' v xss:=by
 obtain⟨vs,h1,h2,h3⟩:=h;exact⟨vs,h1.kept k hS,h2,fun i x xs a b=>(h3 i x xs a b).kept k hS⟩
theorem ql.mono {B B':Nat}{w:World}{v:Value}{xss:List (List Int)}(h:ql B w v xss)(hB:B≤B'):ql B' w v xss:=by
 obtain⟨vs,h1,h2,h3⟩:=h;exact⟨vs,h1.mono hB,h2,fun i x xs a b=>(h3 i x xs a b).mono hB⟩
theorem jy.mono {B B':Nat}{w:World}{v:Value}{xss:List (List (List Int))}(h:jy B w v xss)(hB:B≤B'):jy B' w v xss:=by
 obtain⟨vs,h1,h2,h3⟩:=h;exact⟨vs,h1.mono hB,h2,fun i x xs a b=>(h3 i x xs a b).mono hB⟩
theorem ql.open {B:Nat}{w:World}{v:Value}{xss:List (List Int)}(h:ql B w v xss):∃ao cap,v=.slice ao xss.length cap∧xss.length≤cap∧xss.length≤17592186044416∧
 (0<xss.length→∃b off,ao=some ⟨b,off,none⟩∧b<B∧∀j,j<xss.length→∃ai ci,w.cell? ⟨b,off+j,none⟩=some (.slice ai (xss.getD j []).length ci)∧jD B w (.slice ai (xss.getD j []).length ci) (xss.getD j [])):=by
 obtain⟨vs,⟨ao,cap,rfl,h1,h2,h3⟩,h4,h5⟩:=h;rw[h4]at h1 h2 h3⊢;refine⟨ao,cap,rfl,h1,h2,fun hp=>?_⟩;obtain⟨b,off,rfl,hb,hc⟩:=h3 hp;refine⟨b,off,rfl,hb,fun j hj=>?_⟩;have e1:vs[j]?=some vs[j]:=ay af;have e2:xss[j]?=some xss[j]:=ay hj;have hr:=h5 j _ _ e1 e2;have hg:xss.getD j []=xss[j]:=by simp[e2]
 rw[hg];obtain⟨ai,ci,hv,_⟩:=hr.open;refine⟨ai,ci,?_,?_⟩
 ·rw[hc j hj,e1,hv]
 ·rw[←hv];exact hr
theorem jy.open {B:Nat}{w:World}{v:Value}{xss:List (List (List Int))}(h:jy B w v xss):∃ao cap,v=.slice ao xss.length cap∧xss.length≤cap∧xss.length≤17592186044416∧
 (0<xss.length→∃b off,ao=some ⟨b,off,none⟩∧b<B∧∀j,j<xss.length→∃ai ci,w.cell? ⟨b,off+j,none⟩=some (.slice ai (xss.getD j []).length ci)∧ql B w (.slice ai (xss.getD j []).length ci) (xss.getD j [])):=by
 obtain⟨vs,⟨ao,cap,rfl,h1,h2,h3⟩,h4,h5⟩:=h;rw[h4]at h1 h2 h3⊢;refine⟨ao,cap,rfl,h1,h2,fun hp=>?_⟩;obtain⟨b,off,rfl,hb,hc⟩:=h3 hp;refine⟨b,off,rfl,hb,fun j hj=>?_⟩;have e1:vs[j]?=some vs[j]:=ay af;have e2:xss[j]?=some xss[j]:=ay hj;have hr:=h5 j _ _ e1 e2;have hg:xss.getD j []=xss[j]:=by simp[e2]
 rw[hg];obtain⟨ai,ci,hv,_⟩:=hr.open;refine⟨ai,ci,?_,?_⟩
 ·rw[hc j hj,e1,hv]
 ·rw[←hv];exact hr
def Own (w:World)(size:Nat)(v:Value)(n:Nat)(cs:List Value):Prop:=
 cs.length=n*size∧((v=.slice none 0 0∧n=0)∨∃g cap,v=.slice (some ⟨g,0,none⟩) n cap∧n≤cap∧cap≤maxLen∧g<w.heap.size∧
  (∀j,j<n*size→w.cell? ⟨g,j,none⟩=cs[j]?)∧(∀j,j<cap*size→(w.cell? ⟨g,j,none⟩).isSome=true∧w.frozen? ⟨g,j,none⟩=false))
theorem Own.nil (w:World)(size:Nat):Own w size (.slice none 0 0) 0 []:=⟨aj,.inl ⟨rfl,rfl⟩⟩
theorem Own.kept {w w':World}{S:Nat→Prop}{size n:Nat}{v:Value}{cs:List Value}(h:Own w size v n cs)(k:Kp S w w')(hn:∀g,v.ownBlock=some g→¬S g):Own w' size v n cs:=by
 refine⟨h.1,?_⟩;rcases h.2 with h|⟨g,cap,rfl,h1,h2,h3,h4,h5⟩
 ·exact .inl h
 ·have e:=k.block g h3 (hn g rfl);refine .inr ⟨g,cap,rfl,h1,h2,aY h3 k.size,fun j hj=>?_,fun j hj=>?_⟩
  ·rw[World.cell?_of_block (w:=w) (a:=⟨g,j,none⟩) e];exact h4 j hj
  ·rw[World.cell?_of_block (w:=w) (a:=⟨g,j,none⟩) e,World.frozen?_of_block (w:=w) (a:=⟨g,j,none⟩) e];exact h5 j hj
theorem Own.ext {w w':World}{size n:Nat}{v:Value}{cs:List Value}(h:Own w size v n cs)(k:Ext w w'):Own w' size v n cs:=h.kept k (fun _ _ f=>f)
theorem Own.lt {w:World}{size n:Nat}{v:Value}{cs:List Value}(h:Own w size v n cs){g:Nat}(hg:v.ownBlock=some g):g<w.heap.size:=by
 rcases h.2 with⟨rfl,_⟩|⟨g',cap,rfl,_,_,h3,_⟩
 ·simp[Value.ownBlock]at hg
 ·simp[Value.ownBlock]at hg;omega
theorem Own.shape {w:World}{size n:Nat}{v:Value}{cs:List Value}(h:Own w size v n cs):∃ao cap,v=.slice ao n cap∧n≤cap:=by
 rcases h.2 with⟨rfl,rfl⟩|⟨g',cap,rfl,h1,_⟩
 ·exact⟨_,_,rfl,aK _⟩
 ·exact⟨_,_,rfl,h1⟩
theorem A_ (P:Program)(w:World)(t e tx ty:TypeId)(z:Value)(size bytes:Nat)(ht:P.underlying t=some (.slice e))(hinfo:(P.info? e).map (fun i=>(i.zero,i.size,i.bytes))=some (some z,size,bytes))(hzc:z.cells.size=size)
 (v:Value)(n:Nat)(cs:List Value)(hown:Own w size v n cs)(x:Value)(m:Nat)(news:List Value)(hs:Src P size tx x m news w)(hb:(n+m)*bytes≤140737488355328)(hm:n+m≤1000000000000000):
 ∃v' w',(Builtin.append_ #[t,tx] ty #[v,x]).run P w=.ok v' w'∧Own w' size v' (n+m) (cs++news)∧Kp (Of v) w w'∧Own w' size v n cs∧(v'.ownBlock=v.ownBlock∨∃g,v'.ownBlock=some g∧w.heap.size≤g∧Ext w w'):=by
 obtain⟨i0,hi,hz0,hz1,hz2⟩:=info_parts hinfo;have hs':Src P i0.size tx x m news w:=by rw[hz1];exact hs
 have hnl:news.length=m*size:=hs.newsLen;have hcl:=hown.1;have hlen:(cs++news).length=(n+m)*size:=by rw[aD,hcl,hnl,Nat.add_mul]
 have grow:∀(base:Option Addr)(cap:Nat),v=.slice base n cap→cap<n+m→(Builtin.firstCells i0.size n (.slice base n cap)).run P w.drew=.ok cs.toArray w.drew→
  ∃v' w',(Builtin.append_ #[t,tx] ty #[v,x]).run P w=.ok v' w'∧Own w' size v' (n+m) (cs++news)∧Kp (Of v) w w'∧Own w' size v n cs∧(v'.ownBlock=v.ownBlock∨∃g,v'.ownBlock=some g∧w.heap.size≤g∧Ext w w'):=by
  rintro base cap rfl hg hold;have hrun:=run_append_grow_src (P:=P) w t tx ty e i0 z ht hi hz0 base n cap cs hold x m news hs' hg af (growslice_fits hg (by rw[hz2];exact hb));have hge:=grownCap_ge w (n+m) cap e;have hcm:=grownCap_le_maxLen w (n+m) cap e (by unfold maxLen;omega);have hsz:((cs++news).toArray++Builtin.zeroCells z.cells (grownCap w (n+m) cap e-(n+m))).size=grownCap w (n+m) cap e*size:=by
   rw[Array.size_append,size_zeroCells,hzc,List.size_toArray,hlen,←Nat.add_mul]
   congr 1
   omega
  refine⟨_,_,hrun,⟨hlen,.inr ⟨w.heap.size,_,rfl,hge,hcm,aj,fun j hj=>?_,fun j hj=>⟨?_,?_⟩⟩⟩,Kp.alloc (Kp.drew ax) _,hown.ext (Kp.alloc (Kp.drew ax) _),.inr ⟨_,rfl,aK _,Kp.alloc (Kp.drew ax) _⟩⟩
  ·have e1:=World.cell?_alloc_new w.drew ((cs++news).toArray++Builtin.zeroCells z.cells (grownCap w (n+m) cap e-(n+m))) e j;have e2:w.drew.heap.size=w.heap.size:=rfl;rw[e2]at e1;rw[e1,Array.getElem?_append_left (by rw[List.size_toArray,hlen];exact hj),List.getElem?_toArray]
  ·have e1:=World.cell?_alloc_new w.drew ((cs++news).toArray++Builtin.zeroCells z.cells (grownCap w (n+m) cap e-(n+m))) e j;have e2:w.drew.heap.size=w.heap.size:=rfl;rw[e2]at e1;rw[e1,Array.getElem?_eq_getElem (by rw[hsz];exact hj)];rfl
  ·exact World.frozen?_alloc_new w.drew _ _ j
 rcases hown.2 with⟨rfl,rfl⟩|⟨g,cap,rfl,h1,h2,h3,h4,h5⟩
 ·obtain rfl:cs=[]:=aT (by simpa using hcl);by_cases hn:m=0
  ·subst hn;obtain rfl:news=[]:=aT (by simpa using hnl);exact⟨_,_,run_append_nothing (P:=P) w t tx ty e i0 ht hi none 0 0 (aK _) x hs',⟨aj,.inl ⟨rfl,rfl⟩⟩,Kp.refl _ _,hown,.inl rfl⟩
  ·exact grow none 0 rfl af (run_firstCells_none w.drew _ _ _ _)
 ·by_cases hfit:n+m≤cap
  ·have hcs:(n+m)*size≤cap*size:=Nat.mul_le_mul_right _ hfit;rw[Nat.add_mul]at hcs;have hrun:=run_append_room_src (P:=P) w t tx ty e i0 ht hi g 0 n cap x m news hs' hfit
    (fun j hj=>by rw[hz1,Nat.zero_add];exact(h5 _ af).1) (fun j hj=>by rw[hz1,Nat.zero_add];exact(h5 _ af).2)
   rw[hz1]at hrun;simp only[Nat.zero_add]at hrun;refine⟨_,_,hrun,⟨hlen,.inr ⟨g,cap,rfl,hfit,h2,?_,fun j hj=>?_,fun j hj=>⟨?_,?_⟩⟩⟩,?_,⟨hcl,.inr ⟨g,cap,rfl,h1,h2,?_,fun j hj=>?_,fun j hj=>⟨?_,?_⟩⟩⟩,.inl rfl⟩
   ·have:=(World.keptBut_setCells g (may:=fun _=>True) news (n*size) w (fun _ _=>trivial)).size;omega
   ·rw[Nat.add_mul]at hj;by_cases hj1:j<n*size
    ·rw[World.cell?_setCells_out g _ _ _ _ (fun _ _=>Or.inl hj1),aS af];exact h4 j hj1
    ·have:=World.cell?_setCells_in g news (n*size) w (fun j' hj'=>(h5 _ af).1) (j-n*size) af;rw[show n*size+(j-n*size)=j from af]at this;rw[this,aP af,hcl,ay]
   ·by_cases hj1:j<n*size∨n*size+news.length≤j
    ·rw[World.cell?_setCells_out g _ _ _ _ (fun _ _=>hj1)];exact(h5 j hj).1
    ·have:=World.cell?_setCells_in g news (n*size) w (fun j' hj'=>(h5 _ af).1) (j-n*size) af;rw[show n*size+(j-n*size)=j from af]at this;rw[this];rfl
   ·rw[World.frozen?_setCells];exact(h5 j hj).2
   ·have hkb:=World.keptBut_setCells g (may:=fun _=>True) news (n*size) w (fun _ _=>trivial);refine⟨World.os_setCells _ _ _ _,?_,World.output_setCells _ _ _ _,hkb.size,fun k hk hn=>World.heap_setCells_other _ _ _ _ hk (fun e=>hn (by subst e;rfl))⟩;have ht:∀(l:List Value)(o:Nat)(u:World),(u.setCells g o l).tape=u.tape:=by
     intro l;induction l with
     |nil=>intro o u;rfl
     |cons y r ih=>intro o u;rw[World.setCells,ih];rfl
    exact ht _ _ _
   ·have:=(World.keptBut_setCells g (may:=fun _=>True) news (n*size) w (fun _ _=>trivial)).size;omega
   ·rw[World.cell?_setCells_out g _ _ _ _ (fun _ _=>Or.inl hj)];exact h4 j hj
   ·by_cases hj1:j<n*size∨n*size+news.length≤j
    ·rw[World.cell?_setCells_out g _ _ _ _ (fun _ _=>hj1)];exact(h5 j hj).1
    ·have:=World.cell?_setCells_in g news (n*size) w (fun j' hj'=>(h5 _ af).1) (j-n*size) af;rw[show n*size+(j-n*size)=j from af]at this;rw[this];rfl
   ·rw[World.frozen?_setCells];exact(h5 j hj).2
  ·refine grow (some ⟨g,0,none⟩) cap rfl af ?_;rw[hz1];exact run_firstCells_some w.drew size n ⟨g,0,none⟩ _ _ cs hcl (fun j u hu=>by
    have hj:=(aL.1 hu).1;rw[Addr.add_lit,Nat.zero_add];exact(h4 j af).trans hu)
theorem vV (P:Program)(w:World)(t e tx ty:TypeId)(z:Value)(size bytes:Nat)(ht:P.underlying t=some (.slice e))(hinfo:(P.info? e).map (fun i=>(i.zero,i.size,i.bytes))=some (some z,size,bytes))(hzc:z.cells.size=size)
 (v:Value)(n:Nat)(cs:List Value)(hown:Own w size v n cs)(x:Value)(m:Nat)(news:List Value)(hs:Src P size tx x m news w)(hb:(n+m)*bytes≤140737488355328)(hm:n+m≤1000000000000000):
 ∃v' w',(Builtin.append_ #[t,tx] ty #[v,x]).run P w=.ok v' w'∧Own w' size v' (n+m) (cs++news)∧Kp (Of v) w w'∧Sep w v v':=by
 obtain⟨v',w',h1,h2,h3,_,h4⟩:=A_ P w t e tx ty z size bytes ht hinfo hzc v n cs hown x m news hs hb hm;exact⟨v',w',h1,h2,h3,h4.imp id (fun⟨g,a,b,_⟩=>⟨g,a,b⟩)⟩
theorem dI {P:Program}(w:World){ops:Array Oper}{rest:List Oper}{o:Oper}{a:Act}{Q:Exit→Act→World→Prop}(hgd:o.guard=none)(s x:Operand)(t tx:TypeId)
 (ho:o.op=.call {callee:=.builtin .append,args:=#[s,x],argTypes:=#[t,tx]})(e:TypeId)(z:Value)(size bytes:Nat)(ht:P.underlying t=some (.slice e))(hinfo:(P.info? e).map (fun i=>(i.zero,i.size,i.bytes))=some (some z,size,bytes))(hzc:z.cells.size=size)
 (v:Value)(n:Nat)(cs:List Value)(hv:a.eval s=v)(hown:Own w size v n cs)(xv:Value)(hx:a.eval x=xv)(m:Nat)(news:List Value)(hs:Src P size tx xv m news w)(hb:(n+m)*bytes≤140737488355328)(hm:n+m≤1000000000000000)
 (hK:∀v' w',Own w' size v' (n+m) (cs++news)→Kp (Of v) w w'→Sep w v v'→wpList P ops Q rest (a.put o.dst v') w'):wpList P ops Q (o::rest) a w:=by
 refine wpList_plain hgd fun K hK'=>?_
 obtain⟨v',w',hrun,r1,r2,r3⟩:=vV P w t e tx o.type z size bytes ht hinfo hzc v n cs hown xv m news hs hb hm;unfold Oper.wp;simp[execOp,ho,resolve,invoke,builtin,hv,hx,hrun,Result.andThen];exact hK' _ _ (hK v' w' r1 r2 r3)
theorem lD {P:Program}(w:World){ops:Array Oper}{rest:List Oper}{o:Oper}{a:Act}{Q:Exit→Act→World→Prop}(hgd:o.guard=none)(s x:Operand)(t tx:TypeId)
 (ho:o.op=.call {callee:=.builtin .append,args:=#[s,x],argTypes:=#[t,tx]})(e:TypeId)(z:Value)(size bytes:Nat)(ht:P.underlying t=some (.slice e))(hinfo:(P.info? e).map (fun i=>(i.zero,i.size,i.bytes))=some (some z,size,bytes))(hzc:z.cells.size=size)
 (v:Value)(n:Nat)(cs:List Value)(hv:a.eval s=v)(hown:Own w size v n cs)(xv:Value)(hx:a.eval x=xv)(m:Nat)(news:List Value)(hs:Src P size tx xv m news w)(hb:(n+m)*bytes≤140737488355328)(hm:n+m≤1000000000000000)
 (hK:∀v' w',Own w' size v' (n+m) (cs++news)→Kp (Of v) w w'→Own w' size v n cs→(v'.ownBlock=v.ownBlock∨∃g,v'.ownBlock=some g∧w.heap.size≤g∧Ext w w')→wpList P ops Q rest (a.put o.dst v') w'):wpList P ops Q (o::rest) a w:=by
 refine wpList_plain hgd fun K hK'=>?_
 obtain⟨v',w',hrun,r1,r2,r3,r4⟩:=A_ P w t e tx o.type z size bytes ht hinfo hzc v n cs hown xv m news hs hb hm;unfold Oper.wp;simp[execOp,ho,resolve,invoke,builtin,hv,hx,hrun,Result.andThen];exact hK' _ _ (hK v' w' r1 r2 r3 r4)
namespace Pl
def qN (L:List (List UInt8))(k:Nat):Prop:=(L.take k).all y_=true∧(L.take k).Nodup
theorem Ba (L:List (List UInt8)):qN L 0:=by simp[qN]
theorem Bd (L:List (List UInt8))(k:Nat)(hk:k<L.length):qN L (k+1)↔qN L k∧y_ L[k]=true∧L[k]∉L.take k:=by
 unfold qN;rw[aF hk];rw[List.all_append,List.nodup_append];simp only[List.all_cons,List.all_nil,Bool.and_true,Bool.and_eq_true];constructor
 ·rintro⟨⟨a,b⟩,c,d,e⟩;exact⟨⟨a,c⟩,b,fun h=>e _ h _ aj rfl⟩
 ·rintro⟨⟨a,c⟩,b,d⟩;refine⟨⟨a,b⟩,c,aj,fun x hx y hy e=>?_⟩;simp at hy;subst hy;exact d (e▸hx)
theorem xJ (L:List (List UInt8))(k:Nat):∀n,qN L (k+n)→qN L k:=by
 intro n h;unfold qN at*;have e:L.take k=(L.take (k+n)).take k:=by rw[List.take_take,Nat.min_eq_left af]
 rw[e];refine⟨?_,h.2.sublist (List.take_sublist _ _)⟩;rw[List.all_eq_true]at*;exact fun x hx=>h.1 x (List.mem_of_mem_take hx)
theorem fD (L:List (List UInt8)):fJ L=true↔1≤L.length∧L.length≤4∧qN L L.length:=by
 unfold fJ qN;rw[aX];simp only[Bool.and_eq_true,decide_eq_true_eq];constructor
 ·rintro⟨⟨⟨a,b⟩,c⟩,d⟩;exact⟨a,b,c,d⟩
 ·rintro⟨a,b,c,d⟩;exact⟨⟨⟨a,b⟩,c⟩,d⟩
theorem mF (L:List (List UInt8))(k:Nat)(hk:k≤L.length)(h:¬qN L k):fJ L=false:=by
 rw[←Bool.not_eq_true,fD];rintro⟨_,_,c⟩;exact h (xJ L k (L.length-k) (by rwa[show k+(L.length-k)=L.length from af]))
theorem nQ (s:List UInt8):y_ s=true↔1≤s.length∧s.length≤8:=by
 unfold y_;simp only[Bool.and_eq_true,decide_eq_true_eq]
theorem uH (x:Int):mJ x=true↔0≤x∧x≤1099511627775:=by
 unfold mJ;simp only[Bool.and_eq_true,decide_eq_true_eq]
def uw (xs:List Int):Bool:=!xs.all mJ
theorem SS {xs:List Int}(h:xs.all mJ=true):uw xs=false:=by unfold uw;rw[h];rfl
theorem SV {xs:List Int}(h:xs.all mJ=false):uw xs=true:=by unfold uw;rw[h];rfl
def mK (rows:Nat)(l:List Int):Bool:=decide (l.length=rows)&&l.all mJ
theorem qA (bD:Nat)(g:List (List Int)):lY bD g=true↔g.length=bD∧1≤(g.getD 0 []).length∧(g.getD 0 []).length≤20∧∀l∈g,mK (g.getD 0 []).length l=true:=by
 unfold lY mK;simp only[Bool.and_eq_true,decide_eq_true_eq,List.all_eq_true];constructor
 ·rintro⟨⟨⟨a,b⟩,c⟩,d⟩;exact⟨a,b,c,d⟩
 ·rintro⟨a,b,c,d⟩;exact⟨⟨⟨a,b⟩,c⟩,d⟩
theorem uy (names:List (List UInt8))(gs:List (List (List Int))):lC names gs=true↔fJ names=true∧gs.length≤6∧∀g∈gs,lY names.length g=true:=by
 unfold lC;simp only[Bool.and_eq_true,decide_eq_true_eq,List.all_eq_true];constructor
 ·rintro⟨⟨a,b⟩,c⟩;exact⟨a,b,c⟩
 ·rintro⟨a,b,c⟩;exact⟨⟨a,b⟩,c⟩
end Pl
def bytesOf (s:ByteArray):List UInt8:=s.data.toList
theorem gX (s:ByteArray):(bytesOf s).length=s.size:=by
 unfold bytesOf;rw[Array.length_toList];rfl
theorem KU (s t:ByteArray):(s.toList==t.toList)=decide (bytesOf s=bytesOf t):=by
 rw[ByteArray.toList_eq,ByteArray.toList_eq,Bool.eq_iff_iff];simp[bytesOf]
theorem za (w:World)(n:Int):Calls Tryz.prog 137 #[.int .i64 n] w fun e w'=>e=.returned (.bool (!Pl.mJ n))∧w'=w:=by
 by_cases h1:n<0
 ·have e:Pl.mJ n=false:=by rw[←Bool.not_eq_true,Pl.uH];omega
  rw[e];go_enter Tryz.func137,Tryz.ntmps137;go_wp2;go_ret;exact⟨rfl,rfl⟩
 ·by_cases h2:1099511627775<n
  ·have e:Pl.mJ n=false:=by rw[←Bool.not_eq_true,Pl.uH];omega
   rw[e];go_enter Tryz.func137,Tryz.ntmps137;go_wp2;go_ret;exact⟨aj,rfl⟩
  ·have e:Pl.mJ n=true:=by rw[Pl.uH];omega
   rw[e];go_enter Tryz.func137,Tryz.ntmps137;go_wp2;go_ret;exact⟨aj,rfl⟩
theorem Ke (B0:Nat)(w:World)(v:Value)(xs:List Int)(hr:jD B0 w v xs):
 Calls Tryz.prog 152 #[v,.func (.func 137) #[] #[]] w fun e w'=>∃r:Int,e=.returned (.int .i64 r)∧-1≤r∧r≤17592186044416∧(0≤r↔Pl.uw xs=true)∧w'=w:=by
 obtain⟨ao,cap,rfl,h1,h2,h3⟩:=jD.open hr;clear hr;go_enter Tryz.func152,Tryz.ntmps152
 go_wp2_with fail
 go_loop [8] (fun i=>∃k:Nat,k≤xs.length∧i=.int .i64 k∧Hid ((xs.take k).all Pl.mJ=true)) (fun i=>xs.length-(intOf i).toNat)
 case atStart=>exact⟨0,aM _,rfl,by show _=_;simp⟩
 case round=>
  obtain⟨k,hk,rfl,hall⟩:=hrel;by_cases hkl:k<xs.length
  ·obtain⟨b,off,rfl,hb,hc⟩:=h3 af;have hck:=hc k hkl;clear hc h3;rw[show xs.getD k 0=xs[k] by rw[aC,ay hkl];rfl]at hck;cases hok:Pl.mJ xs[k]with
   |true=>
    have hw:=za w xs[k];rw[hok]at hw;have HN:Hid ((xs.take (k+1)).all Pl.mJ=true):=by
     show _=_;rw[aF hkl,List.all_append,hall.out];simp[hok]
    clear hok;generalize xs[k]=x at*;have HW:=hide hw;clear hw
    go_wp2_with fail
    refine(bH HW).mono ?_;rintro e w1 ⟨rfl,rfl⟩
    go_wp2_with fail
    go_round
    case rel=>exact⟨k+1,af,by go_num,HN⟩
    case measure=>simp[intOf];omega
   |false=>
    have hw:=za w xs[k];rw[hok]at hw;have HN:Hid (xs.all Pl.mJ=false):=by
     show _=_;rw[←Bool.not_eq_true,List.all_eq_true];intro h;have:=h xs[k] (aJ hkl);rw[hok]at this;cases this
    clear hok;generalize xs[k]=x at*;have HW:=hide hw;clear hw
    go_wp2_with fail
    refine(bH HW).mono ?_;rintro e w1 ⟨rfl,rfl⟩
    go_wp2_with fail
    go_ret;exact⟨_,rfl,af,af,⟨fun _=>Pl.SV HN.out,fun _=>af⟩,rfl⟩
  ·go_wp2_with fail
   go_ret;have:=hall.out;rw[List.take_of_length_le af]at this;exact⟨_,rfl,af,af,⟨fun h=>af,fun h=>by rw[Pl.SS this]at h;cases h⟩,rfl⟩
theorem Er (B0:Nat)(w:World)(v:Value)(xs:List Int)(hr:jD B0 w v xs):
 Calls Tryz.prog 136 #[v,.func (.func 137) #[] #[]] w fun e w'=>e=.returned (.bool (Pl.uw xs))∧w'=w:=by
 go_enter Tryz.func136,Tryz.ntmps136
 go_wp2_with fail
 refine(Ke B0 w v xs hr).mono ?_;rintro e w1 ⟨r,rfl,h1,h2,h3,rfl⟩;have HR:=hide h3;clear h3
 go_wp2_with fail
 go_ret;refine⟨?_,rfl⟩;have:=HR.out;cases hb:Pl.uw xs with
 |true=>rw[hb]at this;simp[this]
 |false=>rw[hb]at this;simp at this;simp[this]
theorem SX (B0:Nat)(w:World)(v:Value)(ss:List ByteArray)(s:ByteArray)(hr:h_ B0 w v ss):
 Calls Tryz.prog 140 #[v,.string s] w fun e w'=>∃r:Int,e=.returned (.int .i64 r)∧-1≤r∧r≤17592186044416∧(0≤r↔bytesOf s∈ss.map bytesOf)∧w'=w:=by
 obtain⟨ao,cap,rfl,h1,h2,h3⟩:=h_.open hr;clear hr;generalize hP:(bytesOf s∈ss.map bytesOf)=P0;have HP:=hide hP;clear hP;go_enter Tryz.func140,Tryz.ntmps140
 go_wp2_with fail
 go_loop [8] (fun i=>∃k:Nat,k≤ss.length∧i=.int .i64 k∧Hid (bytesOf s∉(ss.take k).map bytesOf)) (fun i=>ss.length-(intOf i).toNat)
 case atStart=>exact⟨0,aM _,rfl,by show _∉_;simp⟩
 case round=>
  obtain⟨k,hk,rfl,hall⟩:=hrel;by_cases hkl:k<ss.length
  ·obtain⟨b,off,rfl,hb,hc⟩:=h3 af;have hck:=hc k hkl;clear hc h3;rw[show ss.getD k ByteArray.empty=ss[k] by rw[aC,ay hkl];rfl]at hck;have he:=KU s ss[k];have hmem:bytesOf ss[k]∈ss.map bytesOf:=List.mem_map.2 ⟨_,aJ hkl,rfl⟩;have htk:(ss.take (k+1)).map bytesOf=(ss.take k).map bytesOf++[bytesOf ss[k]]:=by rw[aF hkl,a_];rfl
   generalize ss[k]=y at*;by_cases hok:bytesOf s=bytesOf y
   ·rw[aH hok]at he;have HN:Hid P0:=by show P0;rw[←HP.out,hok];exact hmem
    clear hok hmem htk
    go_wp2_with fail
    go_ret;exact⟨_,rfl,af,af,⟨fun _=>HN.out,fun _=>af⟩,rfl⟩
   ·rw[aG hok]at he;have HN:Hid (bytesOf s∉(ss.take (k+1)).map bytesOf):=by
     show _∉_;rw[htk];simp only[aI,aZ];rintro(h|h)
     ·exact hall.out h
     ·exact hok h
    clear hok hmem htk
    go_wp2_with fail
    go_round
    case rel=>exact⟨k+1,af,by go_num,HN⟩
    case measure=>simp[intOf];omega
  ·go_wp2_with fail
   go_ret;have:=hall.out;rw[List.take_of_length_le af,HP.out]at this;exact⟨_,rfl,af,af,⟨fun h=>af,fun h=>absurd h this⟩,rfl⟩
theorem KV (B0:Nat)(w:World)(v:Value)(ss:List ByteArray)(s:ByteArray)(hr:h_ B0 w v ss)(b:Bool)(hb:b=decide (bytesOf s∈ss.map bytesOf)):
 Calls Tryz.prog 116 #[v,.string s] w fun e w'=>e=.returned (.bool b)∧w'=w:=by
 have HB:=hide hb;clear hb;go_enter Tryz.func116,Tryz.ntmps116
 go_wp2_with fail
 refine(SX B0 w v ss s hr).mono ?_;rintro e w1 ⟨r,rfl,h1,h2,h3,rfl⟩;have HR:=hide h3;clear h3
 go_wp2_with fail
 go_ret;refine⟨?_,rfl⟩;have hb:b=decide (0≤r):=by rw[HB.out,decide_eq_decide];exact HR.out.symm
 rw[hb];rfl
theorem zb (B0:Nat)(w:World)(v:Value)(ss:List ByteArray)(hr:h_ B0 w v ss):
 Calls Tryz.prog 100 #[v] w fun e w'=>e=.returned (.bool (Pl.fJ (ss.map bytesOf)))∧w'=w:=by
 have hr0:=hr;obtain⟨ao,cap,rfl,h1,h2,h3⟩:=h_.open hr;clear hr;have hml:(ss.map bytesOf).length=ss.length:=aj;by_cases hs:ss.length<1
 ·have e:Pl.fJ (ss.map bytesOf)=false:=by rw[←Bool.not_eq_true,Pl.fD];omega
  rw[e];clear e hml;go_enter Tryz.func100,Tryz.ntmps100;go_wp2;go_ret;exact⟨rfl,rfl⟩
 by_cases hs4:4<ss.length
 ·have e:Pl.fJ (ss.map bytesOf)=false:=by rw[←Bool.not_eq_true,Pl.fD];omega
  rw[e];clear e hml;go_enter Tryz.func100,Tryz.ntmps100;go_wp2;go_ret;exact⟨rfl,rfl⟩
 generalize hb:Pl.fJ (ss.map bytesOf)=bb;have HB:=hide hb;have HM:=hide hml;clear hb hml;obtain⟨b,off,rfl,hb0,hc⟩:=h3 af;go_enter Tryz.func100,Tryz.ntmps100
 go_wp2_with fail
 go_loop [15] (fun i=>∃k:Nat,k≤ss.length∧i=.int .i64 k∧Hid (Pl.qN (ss.map bytesOf) k)) (fun i=>ss.length-(intOf i).toNat)
 case atStart=>exact⟨0,aM _,rfl,Pl.Ba _⟩
 case round=>
  obtain⟨k,hk,rfl,hall⟩:=hrel;by_cases hkl:k<ss.length
  ·have hck:=hc k hkl;clear hc h3;have Be:ss.getD k ByteArray.empty=ss[k]:=by rw[aC,ay hkl];rfl
   rw[Be]at hck;have hstep:=Pl.Bd (ss.map bytesOf) k (by rw[HM.out];exact hkl);rw[List.getElem_map,Pl.nQ,gX]at hstep;have hcon:=KV B0 w (.slice (some ⟨b,off,none⟩) k cap) (ss.take k) ss[k] (by have:=Rd.take hr0 (q:=k) aj af;rw[←List.map_take]at this;exact this) (decide (bytesOf ss[k]∈(ss.take k).map bytesOf)) rfl;rw[List.map_take]at hcon;have HS:=hide hstep;have HC:=hide hcon;clear hstep hcon Be;generalize ss[k]=y at*;by_cases hy1:y.size<1
   ·go_wp2_with fail
    go_ret;rw[←HB.out,Pl.mF _ (k+1) (by rw[HM.out];omega) (fun h=>by have:=(HS.out.1 h).2.1;omega)];exact⟨rfl,rfl⟩
   by_cases hy8:8<y.size
   ·go_wp2_with fail
    go_ret;rw[←HB.out,Pl.mF _ (k+1) (by rw[HM.out];omega) (fun h=>by have:=(HS.out.1 h).2.1;omega)];exact⟨rfl,rfl⟩
   by_cases hin:bytesOf y∈(ss.map bytesOf).take k
   ·rw[aH hin]at HC;have HI:=hide hin;clear hin
    go_wp2_with fail
    refine(bH HC).mono ?_;rintro e w1 ⟨rfl,rfl⟩
    go_wp2_with fail
    go_ret;rw[←HB.out,Pl.mF _ (k+1) (by rw[HM.out];omega) (fun h=>(HS.out.1 h).2.2 HI.out)];exact⟨rfl,rfl⟩
   ·rw[aG hin]at HC;have HI:=hide hin;clear hin
    go_wp2_with fail
    refine(bH HC).mono ?_;rintro e w1 ⟨rfl,rfl⟩
    go_wp2_with fail
    go_round
    case rel=>exact⟨k+1,af,by go_num,HS.out.2 ⟨hall.out,⟨af,af⟩,HI.out⟩⟩
    case measure=>simp[intOf];omega
  ·go_wp2_with fail
   go_ret;obtain rfl:k=ss.length:=af;have e:Pl.fJ (ss.map bytesOf)=true:=by
    rw[Pl.fD,HM.out];exact⟨af,af,hall.out⟩
   rw[←HB.out,e];exact⟨rfl,rfl⟩
theorem getD_at {α:Type}(l:List α)(k:Nat)(d:α)(h:k<l.length):l.getD k d=l[k]:=by rw[aC,ay h];rfl
theorem Hl (B0:Nat)(w:World)(v:Value)(g:List (List Int))(bD:Nat)(hr:ql B0 w v g)(hc1:1≤bD)(hc4:bD≤4):
 Calls Tryz.prog 112 #[v,.int .i64 bD] w fun e w'=>e=.returned (.bool (Pl.lY bD g))∧w'=w:=by
 have hr0:=hr;obtain⟨ao,cap,rfl,h1,h2,h3⟩:=hr.open;clear hr;by_cases hs:g.length=bD
 ·obtain⟨b,off,rfl,hb0,hc⟩:=h3 af;clear h3;obtain⟨a0,c0,hcell0,aaX⟩:=hc 0 af;have hiff:=Pl.qA bD g;have hm0:jD B0 w (.slice a0 (g.getD 0 []).length c0) (g.getD 0 []):=aaX;obtain⟨_,_,he,hrl,hrc,_⟩:=jD.open hm0;cases he;generalize hrows:(g.getD 0 []).length=rows at*;clear aaX hm0;simp only[Nat.add_zero]at hcell0;generalize hb:Pl.lY bD g=bb at*;have hsb:((g.length:Int) !=(bD:Int))=false:=by simp[hs]
  have HI:=hide hiff;have HL:=hide hs;clear hiff hb hrows hs;have SY:0<g.length:=by rw[HL.out];omega
  by_cases hr1:rows<1
  ·go_enter Tryz.func112,Tryz.ntmps112
   go_wp2_with fail
   go_ret;have e:bb=false:=by rw[←Bool.not_eq_true,HI.out];omega
   rw[e];exact⟨rfl,rfl⟩
  by_cases aaY:20<rows
  ·go_enter Tryz.func112,Tryz.ntmps112
   go_wp2_with fail
   go_ret;have e:bb=false:=by rw[←Bool.not_eq_true,HI.out];omega
   rw[e];exact⟨rfl,rfl⟩
  go_enter Tryz.func112,Tryz.ntmps112
  go_wp2_with fail
  go_loop [24] (fun i=>∃k:Nat,k≤g.length∧i=.int .i64 k∧Hid (∀l∈g.take k,Pl.mK rows l=true)) (fun i=>g.length-(intOf i).toNat)
  case atStart=>exact⟨0,aM _,rfl,by show∀l∈_,_;simp⟩
  case round=>
   obtain⟨k,hk,rfl,hall⟩:=hrel;by_cases hkl:k<g.length
   ·obtain⟨ak,ck,hck,m_⟩:=hc k hkl;clear hc;have htk:g.take (k+1)=g.take k++[g[k]]:=aF hkl;have hmem:g[k]∈g:=aJ hkl;rw[getD_at g k [] hkl]at hck m_;generalize g[k]=xs at*;obtain⟨_,_,he,hxl,hxc,_⟩:=jD.open m_;cases he;have hcf:=Er B0 w _ xs m_;generalize hxn:xs.length=n at*;have HXN:=hide hxn;clear hxn;by_cases hne:n=rows
    ·have hnb:((n:Int) !=(rows:Int))=false:=by simp[hne]
     have Aw:=hide hne;clear hne;cases hbad:Pl.uw xs with
     |true=>
      rw[hbad]at hcf;have HC:=hide hcf;have hno:Pl.mK rows xs=false:=by
       unfold Pl.mK;unfold Pl.uw at hbad;simp at hbad⊢;intro _;exact hbad
      have HNO:=hide hno;clear hno hcf hbad
      go_wp2_with fail
      refine(bH HC).mono ?_;rintro e w1 ⟨rfl,rfl⟩
      go_wp2_with fail
      go_ret;have e:bb=false:=by
       rw[←Bool.not_eq_true,HI.out];rintro⟨_,_,_,h⟩;have:=h xs hmem;rw[HNO.out]at this;cases this
      rw[e];exact⟨rfl,rfl⟩
     |false=>
      rw[hbad]at hcf;have HC:=hide hcf;have hyes:Pl.mK rows xs=true:=by
       unfold Pl.mK;unfold Pl.uw at hbad;rw[HXN.out,Aw.out];simp at hbad⊢;exact hbad
      have HY:Hid (∀l∈g.take (k+1),Pl.mK rows l=true):=by
       show∀l∈_,_;rw[htk];intro l hl;rcases aI.1 hl with h|h
       ·exact hall.out l h
       ·rw[aZ.1 h];exact hyes
      clear hcf hbad hyes htk
      go_wp2_with fail
      refine(bH HC).mono ?_;rintro e w1 ⟨rfl,rfl⟩
      go_wp2_with fail
      go_round
      case rel=>exact⟨k+1,af,by go_num,HY⟩
      case measure=>simp[intOf];omega
    ·have hnb:((n:Int) !=(rows:Int))=true:=by simp;omega
     have Aw:=hide hne;clear hne hcf
     go_wp2_with fail
     go_ret;have e:bb=false:=by
      rw[←Bool.not_eq_true,HI.out];rintro⟨_,_,_,h⟩;have:=h xs hmem;unfold Pl.mK at this;rw[Bool.and_eq_true,decide_eq_true_eq,HXN.out]at this;exact Aw.out this.1
     rw[e];exact⟨rfl,rfl⟩
   ·go_wp2_with fail
    go_ret;obtain rfl:k=g.length:=af;have h:=hall.out;rw[aX]at h;have e:bb=true:=HI.out.2 ⟨HL.out,af,af,h⟩;rw[e];exact⟨rfl,rfl⟩
 ·have hsb:((g.length:Int) !=(bD:Int))=true:=by simp;omega
  have e:Pl.lY bD g=false:=by
   rw[←Bool.not_eq_true,Pl.qA];rintro⟨h,_⟩;exact hs h
  rw[e];clear e h3;go_enter Tryz.func112,Tryz.ntmps112;go_wp2;go_ret;exact⟨rfl,rfl⟩
theorem KW (B0:Nat)(w:World)(nv gv:Value)(ss:List ByteArray)(gs:List (List (List Int)))(hn:h_ B0 w nv ss)(hg:jy B0 w gv gs):
 Calls Tryz.prog 95 #[.agg #[nv,gv]] w fun e w'=>e=.returned (.bool (Pl.lC (ss.map bytesOf) gs))∧Ext w w':=by
 have hiff:=Pl.uy (ss.map bytesOf) gs;rw[aQ]at hiff;have hrn:∀u,Ext w u→Calls Tryz.prog 100 #[nv] u fun e w'=>e=.returned (.bool (Pl.fJ (ss.map bytesOf)))∧w'=u:=fun u hu=>zb B0 u nv ss (hn.kept hu (fun _ f=>f.elim))
 have hl:=Pl.fD (ss.map bytesOf);rw[aQ]at hl;obtain⟨an,cn,rfl,n1,n2,-⟩:=h_.open hn;have hg0:=hg;obtain⟨ag,cg,rfl,g1,g2,g3⟩:=hg.open;generalize hb:Pl.lC (ss.map bytesOf) gs=bb at*;have HI:=hide hiff;have HR:=hide hrn;clear hb hiff hrn;have hext:∀o,Ext w (w.alloc o):=fun o=>ax.alloc o
 cases hok:Pl.fJ (ss.map bytesOf)with
 |false=>
  rw[hok]at HR HI;clear hok hl;go_enter Tryz.func95,Tryz.ntmps95
  go_wp2_with fail
  refine((bH HR) _ (hext _)).mono ?_;rintro e w1 ⟨rfl,rfl⟩
  go_wp2_with fail
  go_ret;have e:bb=false:=by rw[←Bool.not_eq_true,HI.out];simp
  rw[e];exact⟨rfl,hext _⟩
 |true=>
  have hln:=hl.1 hok;rw[hok]at HR HI;clear hok hl;by_cases h6:6<gs.length
  ·go_enter Tryz.func95,Tryz.ntmps95
   go_wp2_with fail
   refine((bH HR) _ (hext _)).mono ?_;rintro e w1 ⟨rfl,rfl⟩
   go_wp2_with fail
   go_ret;have e:bb=false:=by rw[←Bool.not_eq_true,HI.out];omega
   rw[e];exact⟨rfl,hext _⟩
  go_enter Tryz.func95,Tryz.ntmps95
  go_wp2_with fail
  refine((bH HR) _ (hext _)).mono ?_;rintro e w1 ⟨rfl,rfl⟩
  go_wp2_with fail
  generalize hN:ss.length=N at*
  go_loop [18] (fun i=>∃k:Nat,k≤gs.length∧i=.int .i64 k∧Hid (∀g∈gs.take k,Pl.lY N g=true)) (fun i=>gs.length-(intOf i).toNat)
  case atStart=>exact⟨0,aM _,rfl,by show∀g∈_,_;simp⟩
  case round=>
   obtain⟨k,hk,rfl,hall⟩:=hrel;by_cases hkl:k<gs.length
   ·have hgw:=hg0.kept (hext (.cells #[.slice an N cn,.slice ag gs.length cg] 42)) (fun _ f=>f.elim);obtain⟨_,_,he,_,_,g4⟩:=hgw.open;cases he;obtain⟨b,off,rfl,hb0,hc⟩:=g4 af;obtain⟨ak,ck,hck,m_⟩:=hc k hkl;clear hc g3 hgw g4;have htk:gs.take (k+1)=gs.take k++[gs[k]]:=aF hkl;have hmem:gs[k]∈gs:=aJ hkl;rw[getD_at gs k [] hkl]at hck m_;generalize gs[k]=g at*;have hrg:=Hl B0 _ _ g N m_ af af;generalize g.length=gl at*;cases hgo:Pl.lY N g with
    |true=>
     rw[hgo]at hrg;have HG:=hide hrg;have HY:Hid (∀l∈gs.take (k+1),Pl.lY N l=true):=by
      show∀l∈_,_;rw[htk];intro l hl;rcases aI.1 hl with h|h
      ·exact hall.out l h
      ·rw[aZ.1 h];exact hgo
     clear hrg hgo htk
     go_wp2_with fail
     refine(bH HG).mono ?_;rintro e w1 ⟨rfl,rfl⟩
     go_wp2_with fail
     go_round
     case rel=>exact⟨k+1,af,by go_num,HY⟩
     case measure=>simp[intOf];omega
    |false=>
     rw[hgo]at hrg;have HG:=hide hrg;have HGO:=hide hgo;clear hrg hgo htk
     go_wp2_with fail
     refine(bH HG).mono ?_;rintro e w1 ⟨rfl,rfl⟩
     go_wp2_with fail
     go_ret;have e:bb=false:=by
      rw[←Bool.not_eq_true,HI.out];rintro⟨_,_,h⟩;have:=h g hmem;rw[HGO.out]at this;cases this
     rw[e];exact⟨rfl,hext _⟩
   ·go_wp2_with fail
    go_ret;obtain rfl:k=gs.length:=af;have h:=hall.out;rw[aX]at h;have e:bb=true:=HI.out.2 ⟨by trivial,af,h⟩;rw[e];exact⟨rfl,hext _⟩
def bK (w:World)(b:Nat)(cs:List Value)(e:TypeId):Prop:=w.heap[b]?=some (.cells cs.toArray e (0,0))
theorem bK.cell {w:World}{b:Nat}{cs:List Value}{e:TypeId}(h:bK w b cs e)(j:Nat):w.cell? ⟨b,j,none⟩=cs[j]?:=by
 unfold bK at h;simp[World.cell?,h]
theorem bK.free {w:World}{b:Nat}{cs:List Value}{e:TypeId}(h:bK w b cs e)(j:Nat):w.frozen? ⟨b,j,none⟩=false:=by
 unfold bK at h;simp[World.frozen?,h]
theorem bK.lt {w:World}{b:Nat}{cs:List Value}{e:TypeId}(h:bK w b cs e):b<w.heap.size:=lt_of_block h
theorem bK.kept {S:Nat→Prop}{w w':World}{b:Nat}{cs:List Value}{e:TypeId}(h:bK w b cs e)(k:Kp S w w')(hn:¬S b):bK w' b cs e:=by
 unfold bK at*;rw[k.block b (lt_of_block h) hn];exact h
theorem bK.ne {w:World}{b b':Nat}{cs cs':List Value}{e e':TypeId}(h:bK w b cs e)(h':bK w b' cs' e')(he:e≠e'):b≠b':=by
 intro hb;subst hb;unfold bK at*;rw[h]at h';simp at h';exact he h'.2
theorem bK.set {w:World}{b:Nat}{cs:List Value}{e:TypeId}(h:bK w b cs e)(j:Nat)(v:Value):bK (w.setCell ⟨b,j,none⟩ v) b (cs.set j v) e:=by
 unfold bK at*;simp only[World.setCell,Array.getElem?_modify,h];simp
theorem bI (w:World)(b j:Nat)(v:Value):Kp (fun k=>k=b) w (w.setCell ⟨b,j,none⟩ v):=Kp.setCell (S:=fun k=>k=b) (p:=⟨b,j,none⟩) ax (.inl rfl) v
theorem size_set (w:World)(a:Addr)(v:Value):(w.setCell a v).heap.size=w.heap.size:=by simp[World.setCell]
theorem bK.bO (w:World)(cs:List Value)(e:TypeId):bK (w.alloc (.cells cs.toArray e)) w.heap.size cs e:=heap_alloc_new w _
theorem gT (w:World){ops:Array Oper}{rest:List Oper}{o:Oper}{a:Act}{Q:Exit→Act→World→Prop}(hg:o.guard=none)(l c:Operand)(t:TypeId)(hop:o.op=Op.makeSlice t l c)
 (e:TypeId)(z:Value)(bytes:Nat)(h1:Tryz.prog.underlying t=some (.slice e))(h2:(Tryz.prog.info? e).map (fun i=>(i.zero,i.size,i.bytes))=some (some z,1,bytes))(hz:z.cells=#[z])
 (n:Nat)(L C:Int)(hl:a.eval l=.int .i64 L)(hc:a.eval c=.int .i64 C)(hL:L=n)(hC:C=n)(hb:bytes*n≤281474976710656)(hn:n≤1000000000000000)
 (hK:∀w',bK w' w.heap.size (List.replicate n z) e→Ext w w'→w'.heap.size=w.heap.size+1→wpList Tryz.prog ops Q rest (a.put o.dst (.slice (some ⟨w.heap.size,0,none⟩) n n)) w'):wpList Tryz.prog ops Q (o::rest) a w:=by
 refine wpList_plain hg fun K hK'=>?_
 obtain⟨i,hi,hz0,hz1,hz2⟩:=info_parts h2;subst hL;subst hC;have hrun:=run_make (P:=Tryz.prog) w t e i z h1 hi hz0 .i64 .i64 (n:Int) (n:Int) af (Int.le_refl _) (by rw[hz2];omega) af;rw[Int.toNat_natCast,hz1,Nat.mul_one,hz]at hrun;have hm:madeCells #[z] n=(List.replicate n z).toArray:=by
  apply Array.ext';rw[toList_madeCells_one]
 rw[hm]at hrun;unfold Oper.wp;simp[execOp,hop,hl,hc,hrun,Result.andThen];exact hK' _ _ (hK _ (bK.bO _ _ _) (ax.alloc _) aj)
theorem Bf (B0:Nat)(w:World)(dT elem:TypeId)(hu:Tryz.prog.underlying dT=some (.slice elem))(hs:(Tryz.prog.info? elem).map (·.size)=some 1)(b dLen dCap:Nat)(cur:List Value)(hb:bK w b cur elem)
 (ao:Option Addr)(sLen sCap:Nat)(cs:List Value)(hl:cs.length=sLen)(hr:Rd B0 w (.slice ao sLen sCap) cs)(hle:cs.length≤dLen)(hfit:cs.length≤cur.length)(h1:∀v∈cs,v.oneCell'=true)(ty:TypeId):
 ∃w' n,(Builtin.copy_ #[dT,dT] ty #[.slice (some ⟨b,0,none⟩) dLen dCap,.slice ao sLen sCap]).run Tryz.prog w=.ok n w'∧bK w' b (cs++cur.drop cs.length) elem∧Kp (fun k=>k=b) w w'∧w'.heap.size=w.heap.size:=by
 obtain⟨KQ,cap',e,c1,c2,c3⟩:=hr;simp only[Value.slice.injEq]at e;obtain⟨rfl,_,rfl⟩:=e;by_cases hp:0<cs.length
 ·obtain⟨b',off,rfl,hb',hc⟩:=c3 hp;have hrun:=run_copy_row Tryz.prog w dT dT ty elem b 0 dLen dCap ⟨b',off,none⟩ sLen sCap cur.toArray elem cs hu hs hb (by rw[hl];exact(Nat.min_eq_left af).symm) (fun j v hv=>by
   rw[Addr.add_lit,hc j (aL.1 hv).1];exact hv) (by simpa using hfit) h1
  refine⟨_,_,hrun,?_,?_,aj⟩
  ·unfold bK at*;simp only[World.setRow,Array.getElem?_modify,hb];simp
  ·refine⟨rfl,rfl,rfl,aj,fun k hk hn=>?_⟩;simp only[World.setRow,Array.getElem?_modify];rw[if_neg (fun e=>hn e.symm)]
 ·have h0:cs=[]:=aT af;subst h0;have hrun:=run_copy_none (P:=Tryz.prog) w dT dT ty elem (some ⟨b,0,none⟩) ao dLen dCap sLen sCap hu hs (by simp at hl;subst hl;exact Nat.zero_min _);exact⟨_,_,hrun,by simpa using hb,Kp.refl _ _,rfl⟩
abbrev sl (b n:Nat):Value:=.slice (some ⟨b,0,none⟩) n (n+2)
abbrev g_ :Value:=.slice none 0 0
theorem Rd.KG {B0:Nat}{w:World}{b:Nat}{cs rest:List Value}{e:TypeId}(h:bK w b (cs++rest) e)(_hr:rest.length=2)(hb:b<B0)(hm:cs.length≤17592186044000):Rd B0 w (sl b cs.length) cs:=by
 refine⟨_,_,rfl,af,af,fun _=>⟨b,0,rfl,hb,fun j hj=>?_⟩⟩;rw[Nat.zero_add,h.cell,aS hj]
namespace Pl
def iter {α:Type}(f:α→α):Nat→α→α
 |0,a=>a
 |k+1,a=>f (iter f k a)
abbrev dS :=List UInt8×Bool
def dX (r:dS):Nat×dS:=match r.1 with
 |[]=>(0,([],true))
 |b::t=>(b.toNat,(t,r.2))
def ko :Nat→Nat→Nat→dS→Nat×Bool×dS
 |0,_,_,r=>(0,false,r)
 |f+1,i,n,r=>
  if(dX r).1<128 then(n+(dX r).1%128*128^i,decide (0<(dX r).1∨i=0),(dX r).2)
  else ko f (i+1) (n+(dX r).1%128*128^i) (dX r).2
def jP (r:dS):Nat×Bool×dS:=ko 9 0 0 r
def di (least most:Nat)(r:dS):Nat×dS:=
 if(jP r).2.1=false∨(jP r).1<least∨most<(jP r).1 then(least,((jP r).2.2.1,true))else((jP r).1,(jP r).2.2)
def mh (n:Nat)(r:dS):List UInt8×dS:=if r.1.length<n then([],(r.1,true))else(r.1.take n,(r.1.drop n,r.2))
def oP (s:Nat×dS):Nat×dS:=(s.1*256%4294967296+(dX s.2).1,(dX s.2).2)
def qm (r:dS):Nat×dS:=iter oP 4 (0,r)
def iN (r:dS):Bool:=!r.2&&decide (r.1.length=0)
structure ku where
 place:Nat
 length:Nat
 sum:Nat
 deriving DecidableEq,Inhabited
structure eu where
 rows:Nat
 pages:List ku
 deriving DecidableEq,Inhabited
structure KX where
 names:List (List UInt8)
 groups:List eu
def iK (s:List (List UInt8)×dS):List (List UInt8)×dS:=
 let k:=di 1 8 s.2;let t:=mh k.1 k.2
 (s.1++[t.1],t.2)
def gq (foot:Nat)(s:List ku×dS):List ku×dS:=
 let p:=di 4 (foot-1) s.2;let l:=di 1 (foot-p.1) p.2;let u:=qm l.2
 (s.1++[⟨p.1,l.1,u.1⟩],u.2)
def ou (columns foot:Nat)(r:dS):eu×dS:=
 let n:=di 1 20 r;let ps:=iter (gq foot) columns ([],n.2)
 (⟨n.1,ps.1⟩,ps.2)
def fT (columns foot:Nat)(s:List eu×dS):List eu×dS:=
 let g:=ou columns foot s.2
 (s.1++[g.1],g.2)
def qZ (data:List UInt8):List (List UInt8)×dS:=
 let c:=di 1 4 (data,false)
 iter iK c.1 ([],c.2)
def jQ (data:List UInt8)(foot:Nat):List eu×dS:=
 let n:=qZ data;let g:=di 0 6 n.2
 iter (fT n.1.length foot) g.1 ([],g.2)
def gU (data:List UInt8)(foot:Nat):Option KX:=
 if iN (jQ data foot).2=true∧fJ (qZ data).1=true then some ⟨(qZ data).1,(jQ data foot).1⟩else none
def jk (tail:List UInt8)(size:Nat):Option Nat:=
 if tail.length=6∧tail.drop 2=mark∧1≤(tail.getD 0 0).toNat*256+(tail.getD 1 0).toNat∧(tail.getD 0 0).toNat*256+(tail.getD 1 0).toNat+10≤size
 then some ((tail.getD 0 0).toNat*256+(tail.getD 1 0).toNat)else none
def fG (s:List Int×dS):List Int×dS:=(s.1++[((di 0 1099511627775 s.2).1:Int)],(di 0 1099511627775 s.2).2)
def dL (s:List Int×Nat×dS):List Int×Nat×dS:=
 let n:=di 0 (1099511627775-s.2.1) s.2.2
 (s.1++[((s.2.1+n.1:Nat):Int)],s.2.1+n.1,n.2)
def jA :Nat→Nat→List Int×dS→List Int×dS
 |0,_,s=>s
 |f+1,left,s=>
  if left=0 then s else
   let k:=di 1 left s.2;let n:=di 0 1099511627775 k.2
   jA f (left-k.1) (s.1++List.replicate k.1 (n.1:Int),n.2)
def gD (data:List UInt8)(rows:Nat):Option (List Int):=
 let k:=dX (data,false)
 if 3≤k.1 then none
 else
  let s:List Int×dS:=
   if k.1=0 then iter fG rows ([],k.2)
   else if k.1=1 then jA rows rows ([],k.2)
   else((iter dL rows ([],0,k.2)).1,(iter dL rows ([],0,k.2)).2.2)
  if iN s.2=true then some s.1 else none
def indexOf (names:List (List UInt8))(n:List UInt8):Option Nat:=names.findIdx? (fun x=>decide (x=n))
def jR (names:List (List UInt8)):List (List UInt8)→List Nat→Option (List Nat)
 |[],acc=>if 0<acc.length then some acc else none
 |n::r,acc=>match indexOf names n with
  |none=>none
  |some i=>if i∈acc then none else jR names r (acc++[i])
def columns (names want:List (List UInt8)):Option (List Nat):=jR names want []
structure cK where
 page:ku
 group:Nat
 column:Nat
 rows:Nat
 deriving DecidableEq,Inhabited
structure Piece where
 place:Nat
 length:Nat
 pages:List cK
 deriving DecidableEq,Inhabited
def nA (l:List cK)(x:cK):List cK:=(l.reverse.dropWhile (fun y=>decide (x.page.place<y.page.place))).reverse++[x]++(l.reverse.takeWhile (fun y=>decide (x.page.place<y.page.place))).reverse
def iD (l:List cK):List cK:=l.foldl nA []
def dP (g:Nat)(gr:eu)(bD:List Nat):List cK:=(List.range bD.length).map fun i=>⟨gr.pages.getD (bD.getD i 0) default,g,i,gr.rows⟩
def rU (p:Piece)(x:cK):Nat:=max p.length (x.page.place+x.page.length-p.place)
def joins (gap:Nat)(p:Piece)(x:cK):Bool:=decide (x.page.place≤p.place+p.length+gap)&&decide (rU p x≤64)
def jS (gap:Nat)(l:List Piece)(x:cK):List Piece:=
 match l.getLast? with
 |none=>[⟨x.page.place,x.page.length,[x]⟩]
 |some p=>if joins gap p x=true then l.dropLast++[⟨p.place,rU p x,p.pages++[x]⟩]else l++[⟨x.page.place,x.page.length,[x]⟩]
def jc (gap:Nat)(l:List cK):List Piece:=l.foldl (jS gap) []
def tu (gap:Nat)(bD:List Nat)(g:Nat)(gr:eu):List Piece:=jc gap (iD (dP g gr bD))
def fU (gap:Nat)(bD:List Nat)(gs:List eu):Nat→List Piece
 |0=>[]
 |k+1=>fU gap bD gs k++tu gap bD k (gs.getD k default)
def fH (gap:Nat)(bD:List Nat)(gs:List eu):List Piece:=fU gap bD gs gs.length
structure gF where
 rows:Nat
 lists:List (List Int)
 missing:Nat
 deriving Inhabited
structure Rw where
 columns:Nat:=0
 groups:List gF:=[]
 gone:Nat:=0
 row:Nat:=0
 left:Nat:=0
 deriving Inhabited
def jL (columns:Nat)(lengths:List Nat):Rw:={columns:=columns,groups:=lengths.map fun n=>⟨n,List.replicate columns [],columns⟩,left:=lengths.sum}
def kz (r:Rw)(g c:Nat)(l:List Int):Rw:={r with groups:=r.groups.modify (g-r.gone) fun x=>{x with lists:=x.lists.set c l,missing:=x.missing-1} }
def fu :List gF→Nat
 |[]=>0
 |g::r=>if 0<g.missing then 0 else g.rows+fu r
def eF (r:Rw):Nat:=fu r.groups-r.row
def gG (r:Rw):List Int×Rw:=
 let f:=r.groups.getD 0 default
 (f.lists.map fun l=>l.getD r.row 0,
  if r.row+1=f.rows then{r with groups:=r.groups.drop 1,gone:=r.gone+1,row:=0,left:=r.left-1}else{r with row:=r.row+1,left:=r.left-1})
def iR (s:List (List Int)×Rw):List (List Int)×Rw:=(s.1++[(gG s.2).1],(gG s.2).2)
def iy (r:Rw)(most:Nat):Nat:=min most r.left
def dQ (r:Rw)(most:Nat):Option (List (List Int))×Rw:=
 if iy r most=0∨eF r<iy r most then(none,r)
 else
  let s:=iter iR (iy r most) ([],r)
  (some ((List.range r.columns).map fun i=>s.1.map fun row=>row.getD i 0),s.2)
inductive xK
 |tail
 |footer
 |piece (p:Piece)
structure Part where
 place:Nat
 length:Nat
 data:List UInt8
 failures:Nat
 gW:xK
structure Sc where
 state:Nat:=0
 size:Nat:=0
 want:List (List UInt8):=[]
 win:Nat:=0
 tries:Nat:=0
 dh:Nat:=0
 gap:Nat:=0
 bW:Nat:=0
 asked:List (Nat×Part):=[]
 waiting:List (Nat×Part):=[]
 ahead:List Piece:=[]
 opened:Nat:=0
 rows:Rw:={}
def ended (why:Nat):Sc:={state:=why}
def ask (m:Sc)(p:Part):Sc:={m with bW:=m.bW+1,asked:=m.asked++[(m.bW+1,p)]}
def oQ (m:Sc)(place length:Nat)(gW:xK):Sc:=ask m ⟨place,length,[],0,gW⟩
def fO :Nat→Sc→Sc
 |0,m=>m
 |f+1,m=>match m.ahead with
  |[]=>m
  |p::r=>if m.opened<m.win then fO f (oQ {m with ahead:=r,opened:=m.opened+1} p.place p.length (.piece p))else m
def fV (m:Sc):Sc:=fO m.ahead.length m
def lI (m:Sc)(data:List UInt8):Sc:=match jk data m.size with
 |none=>ended 2
 |some n=>oQ m (m.size-6-n) n .footer
def jT (m:Sc)(data:List UInt8):Sc:=match gU data (m.size-6-data.length)with
 |none=>ended 2
 |some f=>match columns f.names m.want with
  |none=>ended 3
  |some bD=>if f.groups.length=0 then ended 1 else
   fV {m with rows:=jL bD.length (f.groups.map (·.rows)),ahead:=fH m.gap bD f.groups}
def S9 (p:Piece)(x:cK)(data:List UInt8):List UInt8:=(data.drop (x.page.place-p.place)).take x.page.length
def uz (p:Piece)(x:cK)(data:List UInt8):Option (List Int):=if sumOf (S9 p x data)=x.page.sum then gD (S9 p x data) x.rows else none
def mM (p:Piece)(data:List UInt8):List cK→Rw→Option Rw
 |[],r=>some r
 |x::t,r=>match uz p x data with
  |none=>none
  |some l=>mM p data t (kz r x.group x.column l)
def kX (m:Sc)(p:Piece)(data:List UInt8):Sc:=match mM p data p.pages m.rows with
 |none=>ended 2
 |some r=>fV {m with rows:=r,opened:=m.opened-1}
def mO (m:Sc)(gW:xK)(data:List UInt8):Sc:=match gW with
 |.tail=>lI m data
 |.footer=>jT m data
 |.piece p=>kX m p data
def nR (m:Sc)(p:Part)(data:List UInt8):Sc:=
 if p.data.length+data.length<p.length then ask m {p with data:=p.data++data}else mO m p.gW (p.data++data)
def kT (m:Sc)(p:Part):Sc:=
 if p.failures+1=m.tries then ended 4 else{m with waiting:=m.waiting++[(2^p.failures,{p with failures:=p.failures+1})]}
def gM (l:List (Nat×Part))(id:Int):Option Nat:=l.findIdx? fun q=>decide ((q.1:Int)=id)
def dF (m:Sc)(i:Nat):Sc:={m with asked:=m.asked.eraseIdx i}
def partAt (m:Sc)(i:Nat):Part:=(m.asked.getD i (0,⟨0,0,[],0,.tail⟩)).2
def fail (m:Sc)(id:Int):Sc×Int:=match gM m.asked id with
 |none=>(m,3)
 |some i=>(kT (dF m i) (partAt m i),0)
def answer (m:Sc)(id:Int)(data:List UInt8):Sc×Int:=match gM m.asked id with
 |none=>(m,3)
 |some i=>
  if(partAt m i).length-(partAt m i).data.length<data.length then(m,4)
  else if data.length=0 then fail m id
  else(nR (dF m i) (partAt m i) data,0)
def eO (s:Sc×List (Nat×Part))(q:Nat×Part):Sc×List (Nat×Part):=if 1<q.1 then(s.1,s.2++[(q.1-1,q.2)])else(ask s.1 q.2,s.2)
def tick (m:Sc):Sc:=let s:=m.waiting.foldl eO (m,[]);{s.1 with waiting:=s.2}
def next (m:Sc):Sc×Option (List (List Int)):=
 let r:=dQ m.rows m.dh
 match r.1 with
 |none=>(m,none)
 |some l=>if r.2.left=0 then(ended 1,some l)else({m with rows:=r.2},some l)
def cancel (m:Sc):Sc:=if m.state=0 then ended 5 else m
def xL (q:Nat×Part):Nat×Nat×Nat:=(q.1,q.2.place+q.2.data.length,q.2.length-q.2.data.length)
def dU (want:List (List UInt8)):List (List UInt8):=if fJ want=true then want else[]
def vW (w t r g:Int):Bool:=decide (1≤w)&&decide (w≤4)&&decide (1≤t)&&decide (t≤4)&&decide (1≤r)&&decide (r≤20)&&decide (0≤g)&&decide (g≤32)
theorem nC (w t r g:Int):vW w t r g=true↔(1≤w∧w≤4)∧(1≤t∧t≤4)∧(1≤r∧r≤20)∧0≤g∧g≤32:=by
 unfold vW;simp only[Bool.and_eq_true,decide_eq_true_eq];omega
def ni (size w t r g:Int):Bool:=decide (0≤size)&&decide (size≤4000)&&vW w t r g
def kG (size:Nat)(want:List (List UInt8))(w t r g:Nat):Sc:=
 if size<10 then ended 2 else oQ {size:=size,want:=dU want,win:=w,tries:=t,dh:=r,gap:=g} (size-6) 6 .tail
end Pl
inductive Col where
 |out|box|scan|asked|wait|part|data (p:Nat)|groups|lists (g:Nat)|ro
 deriving DecidableEq
abbrev bU :=Nat→Col
abbrev Mine (col:bU):Nat→Prop:=fun k=>col k≠.out
def fo (col:bU)(n n':Nat)(c:Col):bU:=fun k=>if n≤k∧k<n' then c else col k
theorem kH (col:bU)(n n':Nat)(c:Col)(k:Nat)(h:k<n):fo col n n' c k=col k:=by unfold fo;rw[if_neg af]
theorem nS (col:bU)(n n':Nat)(c:Col)(k:Nat)(h:n'≤k):fo col n n' c k=col k:=by unfold fo;rw[if_neg af]
theorem nT (col:bU)(n n':Nat)(c:Col)(k:Nat)(h:n≤k)(h':k<n'):fo col n n' c k=c:=by unfold fo;rw[if_pos ⟨h,h'⟩]
def bM (C:Nat→Prop)(fr:Bool)(w:World)(size:Nat)(v:Value)(n:Nat)(cs:List Value):Prop:=
 cs.length=n*size∧∃ao cap,v=.slice ao n cap∧n≤cap∧(0<n→∃b off,ao=some ⟨b,off,none⟩∧C b∧b<w.heap.size∧(∀j,j<n*size→w.cell? ⟨b,off+j,none⟩=cs[j]?)∧(fr=true→∀j,j<n*size→w.frozen? ⟨b,off+j,none⟩=false))
theorem bM.go {C C':Nat→Prop}{fr:Bool}{S:Nat→Prop}{w w':World}{size n:Nat}{v:Value}{cs:List Value}(h:bM C fr w size v n cs)(k:Kp S w w')(hS:∀i,C i→¬S i)(hC:∀i,i<w.heap.size→C i→C' i):bM C' fr w' size v n cs:=by
 obtain⟨hl,ao,cap,rfl,h1,h3⟩:=h;refine⟨hl,ao,cap,rfl,h1,fun hp=>?_⟩;obtain⟨b,off,rfl,hb,hlt,hc,hf⟩:=h3 hp;have e:=k.block b hlt (hS b hb);refine⟨b,off,rfl,hC b hlt hb,aY hlt k.size,fun j hj=>?_,fun ht j hj=>?_⟩
 ·rw[World.cell?_of_block (w:=w) (a:=⟨b,off+j,none⟩) e];exact hc j hj
 ·rw[World.frozen?_of_block (w:=w) (a:=⟨b,off+j,none⟩) e];exact hf ht j hj
theorem bM.nil (C:Nat→Prop)(fr:Bool)(w:World)(size:Nat):bM C fr w size (.slice none 0 0) 0 []:=⟨aj,none,0,rfl,aK _,fun h=>absurd h af⟩
theorem Own.rowAt {w:World}{size n:Nat}{v:Value}{cs:List Value}(h:Own w size v n cs)(C:Nat→Prop)(hC:∀g,v.ownBlock=some g→C g):bM C true w size v n cs:=by
 refine⟨h.1,?_⟩;rcases h.2 with⟨rfl,rfl⟩|⟨g,cap,rfl,h1,h2,h3,h4,h5⟩
 ·exact⟨none,0,rfl,aK _,fun h=>absurd h af⟩
 ·refine⟨_,cap,rfl,h1,fun _=>⟨g,0,rfl,hC g rfl,h3,fun j hj=>by rw[Nat.zero_add];exact h4 j hj,fun _ j hj=>?_⟩⟩;rw[Nat.zero_add];exact(h5 j (aY hj (Nat.mul_le_mul_right _ h1))).2
abbrev PtrTo (b o:Nat):Value:=.pointer (some ⟨b,o,none⟩)
abbrev fq (f:Nat)(r:Value):Value:=.func (.func f) #[r] #[]
abbrev tC (P:Nat):Value:=fq 81 (PtrTo P 0)
def b_ (x:Pl.cK):List Value:=[I x.page.place,I x.page.length,.int .u32 x.page.sum,I x.group,I x.column,I x.rows]
def oG (col:bU)(w:World)(v:Value)(l:List Pl.cK):Prop:=bM (fun b=>col b=.ro) false w 6 v l.length (l.flatMap b_)
theorem oG.go {col bV:bU}{S:Nat→Prop}{w w':World}{v:Value}{l:List Pl.cK}(h:oG col w v l)(k:Kp S w w')(hS:∀i,S i→col i≠.ro)(hc:∀i,i<w.heap.size→bV i=col i):oG bV w' v l:=
 bM.go h k (fun i hi hs=>hS i hs hi) (fun i hlt hi=>by rw[hc i hlt];exact hi)
def xM (col:bU)(w:World)(P:Nat)(v:Value):Pl.xK→Prop
 |.tail=>v=fq 84 (PtrTo P 0)
 |.footer=>v=fq 104 (PtrTo P 0)
 |.piece p=>∃pv,v=fq 149 (.agg #[PtrTo P 0,I p.place,I p.length,pv])∧oG col w pv p.pages
theorem xM.go {col bV:bU}{S:Nat→Prop}{w w':World}{P:Nat}{v:Value}{a:Pl.xK}(h:xM col w P v a)(k:Kp S w w')(hS:∀i,S i→col i≠.ro)(hc:∀i,i<w.heap.size→bV i=col i):xM bV w' P v a:=by
 cases a with
 |tail=>exact h
 |footer=>exact h
 |piece p=>
  obtain⟨pv,e,hp⟩:=h;exact⟨pv,e,hp.go k hS hc⟩
def kZ (P:Nat)(x:Pl.Part)(dv av:Value):List Value:=[PtrTo P 7,I x.place,I x.length,dv,I x.failures,av]
structure jU (col:bU)(w:World)(P p:Nat)(x:Pl.Part)(dv av:Value):Prop where
 blk:bK w p (kZ P x dv av) 164
 data:dZ w dv x.data
 zM:∀g,dv.ownBlock=some g→col g=.data p
 gW:xM col w P av x.gW
 cB:col p=.part
theorem jU.go {col bV:bU}{S:Nat→Prop}{w w':World}{P p:Nat}{x:Pl.Part}{dv av:Value}(h:jU col w P p x dv av)(k:Kp S w w')(hp:¬S p)(hd:∀i,S i→col i≠.data p)(hS:∀i,S i→col i≠.ro)(hc:∀i,i<w.heap.size→bV i=col i):jU bV w' P p x dv av:=
 ⟨h.blk.kept k hp,h.data.kept k (fun g hg hs=>hd g hs (h.zM g hg)),fun g hg=>by rw[hc g (h.data.lt hg)];exact h.zM g hg,h.gW.go k hS hc,by rw[hc p h.blk.lt];exact h.cB⟩
def PartsAt (col:bU)(w:World)(P:Nat)(ps:List Nat)(l:List (Nat×Pl.Part)):Prop:=
 ps.length=l.length∧∀(i:Nat)(p:Nat)(q:Nat×Pl.Part),ps[i]?=some p→l[i]?=some q→∃dv av,jU col w P p q.2 dv av
theorem PartsAt.go {col bV:bU}{S:Nat→Prop}{w w':World}{P:Nat}{ps:List Nat}{l:List (Nat×Pl.Part)}(h:PartsAt col w P ps l)(k:Kp S w w')(hp:∀p∈ps,¬S p)(hd:∀p∈ps,∀i,S i→col i≠.data p)(hS:∀i,S i→col i≠.ro)(hc:∀i,i<w.heap.size→bV i=col i):PartsAt bV w' P ps l:=
 ⟨h.1,fun i p q a b=>let⟨dv,av,e⟩:=h.2 i p q a b;⟨dv,av,e.go k (hp p (List.mem_of_getElem? a)) (hd p (List.mem_of_getElem? a)) hS hc⟩⟩
theorem PartsAt.lt {col:bU}{w:World}{P:Nat}{ps:List Nat}{l:List (Nat×Pl.Part)}(h:PartsAt col w P ps l){p:Nat}(hp:p∈ps):p<w.heap.size∧col p=.part:=by
 obtain⟨i,hi⟩:=List.getElem?_of_mem hp;have hil:=(aL.1 hi).1;obtain⟨_,_,e⟩:=h.2 i p _ hi (ay (by rw[←h.1];exact hil));exact⟨e.blk.lt,e.cB⟩
def gN (p:Nat)(q:Nat×Pl.Part):List Value:=[I q.1,I (q.2.place+q.2.data.length:Nat),I (q.2.length-q.2.data.length:Nat),fq 118 (PtrTo p 0),fq 119 (PtrTo p 0)]
def mP (p:Nat)(q:Nat×Pl.Part):List Value:=[I q.1,fq 102 (PtrTo p 0)]
def gu (ps:List Nat)(l:List (Nat×Pl.Part)):List Value:=(List.zipWith gN ps l).flatten
def pV (ps:List Nat)(l:List (Nat×Pl.Part)):List Value:=(List.zipWith mP ps l).flatten
def gH (bJ:List Value)(l:List Pl.Piece):List Value:=(List.zipWith (fun pv(p:Pl.Piece)=>[I p.place,I p.length,pv]) bJ l).flatten
def pW (col:bU)(w:World)(v:Value)(l:List Pl.Piece):Prop:=
 ∃bJ:List Value,bJ.length=l.length∧bM (fun b=>col b=.ro) false w 3 v l.length (gH bJ l)∧∀(i:Nat)(pv:Value)(p:Pl.Piece),bJ[i]?=some pv→l[i]?=some p→oG col w pv p.pages
theorem pW.go {col bV:bU}{S:Nat→Prop}{w w':World}{v:Value}{l:List Pl.Piece}(h:pW col w v l)(k:Kp S w w')(hS:∀i,S i→col i≠.ro)(hc:∀i,i<w.heap.size→bV i=col i):pW bV w' v l:=by
 obtain⟨bJ,h1,h2,h3⟩:=h;exact⟨bJ,h1,h2.go k (fun i hi hs=>hS i hs hi) (fun i hlt hi=>by rw[hc i hlt];exact hi),fun i pv p a b=>(h3 i pv p a b).go k hS hc⟩
theorem pW.nil (col:bU)(w:World):pW col w (.slice none 0 0) []:=⟨[],rfl,bM.nil _ _ _ _,fun i _ _ a=>by simp at a⟩
def tH (col:bU)(w:World)(g:Nat)(v:Value)(ls:List (List Int)):Prop:=
 ∃vs:List Value,vs.length=ls.length∧bM (fun b=>col b=.lists g) true w 1 v ls.length vs∧∀(i:Nat)(u:Value)(l:List Int),vs[i]?=some u→ls[i]?=some l→bM (fun b=>col b=.ro) false w 1 u l.length (l.map I)
theorem tH.go {col bV:bU}{S:Nat→Prop}{w w':World}{g:Nat}{v:Value}{ls:List (List Int)}(h:tH col w g v ls)(k:Kp S w w')(hg:∀i,S i→col i≠.lists g)(hS:∀i,S i→col i≠.ro)(hc:∀i,i<w.heap.size→bV i=col i):tH bV w' g v ls:=by
 obtain⟨vs,h1,h2,h3⟩:=h;exact⟨vs,h1,h2.go k (fun i hi hs=>hg i hs hi) (fun i hlt hi=>by rw[hc i hlt];exact hi),fun i u l a b=>(h3 i u l a b).go k (fun i hi hs=>hS i hs hi) (fun i hlt hi=>by rw[hc i hlt];exact hi)⟩
def jF (eG:List Value)(l:List Pl.gF):List Value:=(List.zipWith (fun lv(g:Pl.gF)=>[I g.rows,lv,I g.missing]) eG l).flatten
def jV (col:bU)(w:World)(gone:Nat)(v:Value)(l:List Pl.gF):Prop:=
 ∃eG:List Value,eG.length=l.length∧bM (fun b=>col b=.groups) true w 3 v l.length (jF eG l)∧∀(i:Nat)(lv:Value)(g:Pl.gF),eG[i]?=some lv→l[i]?=some g→tH col w (gone+i) lv g.lists
theorem jV.go {col bV:bU}{S:Nat→Prop}{w w':World}{gone:Nat}{v:Value}{l:List Pl.gF}(h:jV col w gone v l)(k:Kp S w w')(hg:∀i,S i→col i≠.groups)(hl:∀g i,S i→col i≠.lists g)(hS:∀i,S i→col i≠.ro)(hc:∀i,i<w.heap.size→bV i=col i):jV bV w' gone v l:=by
 obtain⟨bJ,h1,h2,h3⟩:=h;exact⟨bJ,h1,h2.go k (fun i hi hs=>hg i hs hi) (fun i hlt hi=>by rw[hc i hlt];exact hi),fun i pv p a b=>(h3 i pv p a b).go k (hl _) hS hc⟩
theorem jV.nil (col:bU)(w:World)(gone:Nat):jV col w gone (.slice none 0 0) []:=⟨[],rfl,bM.nil _ _ _ _,fun i _ _ a=>by simp at a⟩
def lT (P:Nat)(m:Pl.Sc):Value:=if m.state=0 then tC P else .nilFunc
def dw (P:Nat)(m:Pl.Sc)(nv av wv hv gv:Value):List Value:=
 [I m.state,I m.size,nv,I m.win,I m.tries,I m.dh,I m.gap,I m.tries,lT P m,I m.bW,av,wv,hv,I m.opened,I m.rows.columns,gv,I m.rows.gone,I m.rows.row,I m.rows.left]
abbrev tx (l:List UInt8):Value:=.string ⟨l.toArray⟩
structure Inner (col:bU)(w:World)(P:Nat)(m:Pl.Sc)(ps qs:List Nat)(nv av wv hv gv:Value):Prop where
 cB:col P=.scan
 top:∀k,w.heap.size≤k→col k=.out
 names:bM (fun b=>col b=.ro) false w 1 nv m.want.length (m.want.map tx)
 asked:Own w 5 av m.asked.length (gu ps m.asked)
 jd:∀g,av.ownBlock=some g→col g=.asked
 eY:PartsAt col w P ps m.asked
 waiting:Own w 2 wv m.waiting.length (pV qs m.waiting)
 jW:∀g,wv.ownBlock=some g→col g=.wait
 gI:PartsAt col w P qs m.waiting
 nodup:(ps++qs).Nodup
 ahead:pW col w hv m.ahead
 groups:jV col w m.rows.gone gv m.rows.groups
structure fA (col:bU)(w:World)(P:Nat)(m:Pl.Sc)(ps qs:List Nat)(nv av wv hv gv:Value):Prop where
 blk:bK w P (dw P m nv av wv hv gv) 142
 inn:Inner col w P m ps qs nv av wv hv gv
theorem Inner.go {col bV:bU}{S:Nat→Prop}{w w':World}{P:Nat}{m:Pl.Sc}{ps qs:List Nat}{nv av wv hv gv:Value}(h:Inner col w P m ps qs nv av wv hv gv)(k:Kp S w w')(hP:P<w.heap.size)(hS:∀i,S i→col i=.out∨col i=.scan)(hc:∀i,i<w.heap.size→bV i=col i)(ht:∀i,w'.heap.size≤i→bV i=.out):Inner bV w' P m ps qs nv av wv hv gv:=by
 have hno:∀(c:Col),c≠.out→c≠.scan→∀i,S i→col i≠c:=fun c hc hc' i hi e=>by
  rcases hS i hi with e'|e'
  ·exact hc (by rw[←e,e'])
  ·exact hc' (by rw[←e,e'])
 have ha:∀p∈ps,¬S p:=fun p hp hs=>hno .part aj aj p hs (h.eY.lt hp).2
 have hw:∀p∈qs,¬S p:=fun p hp hs=>hno .part aj aj p hs (h.gI.lt hp).2
 refine⟨by rw[hc P hP];exact h.cB,ht,?_,?_,fun g hg=>by rw[hc g (h.asked.lt hg)];exact h.jd g hg,?_,?_,fun g hg=>by rw[hc g (h.waiting.lt hg)];exact h.jW g hg,?_,h.nodup,?_,?_⟩
 ·exact h.names.go k (fun i hi hs=>hno .ro aj aj i hs hi) (fun i hlt e=>by rw[hc i hlt];exact e)
 ·exact h.asked.kept k (fun g hg hs=>hno .asked aj aj g hs (h.jd g hg))
 ·exact h.eY.go k ha (fun p _=>hno _ aj aj) (hno _ aj aj) hc
 ·exact h.waiting.kept k (fun g hg hs=>hno .wait aj aj g hs (h.jW g hg))
 ·exact h.gI.go k hw (fun p _=>hno _ aj aj) (hno _ aj aj) hc
 ·exact h.ahead.go k (hno _ aj aj) hc
 ·exact h.groups.go k (hno _ aj aj) (fun g=>hno _ aj aj) (hno _ aj aj) hc
theorem Inner.put {col:bU}{w w':World}{P:Nat}{m:Pl.Sc}{ps qs:List Nat}{nv av wv hv gv:Value}(h:Inner col w P m ps qs nv av wv hv gv)(k:Kp (fun k=>k=P) w w')(hP:P<w.heap.size):Inner col w' P m ps qs nv av wv hv gv:=
 h.go k hP (fun i hi=>.inr (by rw[hi];exact h.cB)) (fun _ _=>rfl) (fun i hi=>h.top i (aO k.size hi))
theorem fA.kept {col:bU}{S:Nat→Prop}{w w':World}{P:Nat}{m:Pl.Sc}{ps qs:List Nat}{nv av wv hv gv:Value}(h:fA col w P m ps qs nv av wv hv gv)(k:Kp S w w')(hS:∀i,S i→col i=.out):fA col w' P m ps qs nv av wv hv gv:=
 ⟨h.blk.kept k (fun hs=>by have:=hS P hs;rw[h.inn.cB]at this;simp at this),h.inn.go k h.blk.lt (fun i hi=>.inl (hS i hi)) (fun _ _=>rfl) (fun i hi=>h.inn.top i (aO k.size hi))⟩
theorem fA.ext {col:bU}{w w':World}{P:Nat}{m:Pl.Sc}{ps qs:List Nat}{nv av wv hv gv:Value}(h:fA col w P m ps qs nv av wv hv gv)(k:Ext w w'):fA col w' P m ps qs nv av wv hv gv:=h.kept k (fun _ f=>f.elim)
theorem fA.cellP {col:bU}{w:World}{P:Nat}{m m':Pl.Sc}{ps qs:List Nat}{nv av wv hv gv Bg eZ wv' hv' jN:Value}(h:fA col w P m ps qs nv av wv hv gv)(j:Nat)(v:Value)(e:(dw P m nv av wv hv gv).set j v=dw P m' Bg eZ wv' hv' jN)(hi:Inner col w P m' ps qs Bg eZ wv' hv' jN):
 fA col (w.setCell ⟨P,j,none⟩ v) P m' ps qs Bg eZ wv' hv' jN:=
 ⟨by have:=h.blk.set j v;rw[e]at this;exact this,hi.put (bI w P j v) h.blk.lt⟩
def iW (col:bU)(w:World)(P:Nat)(m:Pl.Sc):Prop:=∃ps qs nv av wv hv gv,fA col w P m ps qs nv av wv hv gv
theorem fA.is {col:bU}{w:World}{P:Nat}{m:Pl.Sc}{ps qs:List Nat}{nv av wv hv gv:Value}(h:fA col w P m ps qs nv av wv hv gv):iW col w P m:=⟨_,_,_,_,_,_,_,h⟩
theorem iW.kept {col:bU}{S:Nat→Prop}{w w':World}{P:Nat}{m:Pl.Sc}(h:iW col w P m)(k:Kp S w w')(hS:∀i,S i→col i=.out):iW col w' P m:=by
 obtain⟨ps,qs,nv,av,wv,hv,gv,r⟩:=h;exact⟨ps,qs,nv,av,wv,hv,gv,r.kept k hS⟩
structure cu (col:bU)(w w':World)(bV:bU):Prop where
 kept:Kp (Mine col) w w'
 same:∀k,k<w.heap.size→bV k=col k
theorem cu.refl (col:bU)(w:World):cu col w w col:=⟨Kp.refl _ _,fun _ _=>rfl⟩
theorem cu.trans {a b c:bU}{w w1 w2:World}(h:cu a w w1 b)(k:cu b w1 w2 c):cu a w w2 c:=
 ⟨h.kept.then k.kept (fun i hi e=>by have:=h.same i hi;unfold Mine at*;rw[←this];exact e),fun i hi=>by rw[k.same i (aY hi h.kept.size),h.same i hi]⟩
theorem cu.ext {col:bU}{w w':World}(k:Ext w w'):cu col w w' col:=⟨Kp.cZ k,fun _ _=>rfl⟩
structure Calm (col:bU)(S:Nat→Prop):Prop where
 ro:∀i,S i→col i≠.ro
 part:∀i,S i→col i≠.part
 data:∀p i,S i→col i≠.data p
 groups:∀i,S i→col i≠.groups
 lists:∀g i,S i→col i≠.lists g
theorem Calm.one {col:bU}{S:Nat→Prop}(c:Col)(h:∀i,S i→col i=c)(h1:c≠.ro)(h2:c≠.part)(h3:∀p,c≠.data p)(h4:c≠.groups)(h5:∀g,c≠.lists g):Calm col S:=
 ⟨fun i hi e=>h1 (by rw[←h i hi,e]),fun i hi e=>h2 (by rw[←h i hi,e]),fun p i hi e=>h3 p (by rw[←h i hi,e]),fun i hi e=>h4 (by rw[←h i hi,e]),fun g i hi e=>h5 g (by rw[←h i hi,e])⟩
structure Rest (col:bU)(w:World)(P:Nat)(m:Pl.Sc)(ps qs:List Nat)(nv hv gv:Value):Prop where
 names:bM (fun b=>col b=.ro) false w 1 nv m.want.length (m.want.map tx)
 eY:PartsAt col w P ps m.asked
 gI:PartsAt col w P qs m.waiting
 ahead:pW col w hv m.ahead
 groups:jV col w m.rows.gone gv m.rows.groups
theorem Inner.rest {col bV:bU}{S:Nat→Prop}{w w':World}{P:Nat}{m:Pl.Sc}{ps qs:List Nat}{nv av wv hv gv:Value}(h:Inner col w P m ps qs nv av wv hv gv)(k:Kp S w w')(hS:Calm col S)(hc:∀i,i<w.heap.size→bV i=col i):Rest bV w' P m ps qs nv hv gv:=
 ⟨h.names.go k (fun i hi hs=>hS.ro i hs hi) (fun i hlt e=>by rw[hc i hlt];exact e),
  h.eY.go k (fun p hp hs=>hS.part p hs (h.eY.lt hp).2) (fun p _=>hS.data p) hS.ro hc,
  h.gI.go k (fun p hp hs=>hS.part p hs (h.gI.lt hp).2) (fun p _=>hS.data p) hS.ro hc,
  h.ahead.go k hS.ro hc,h.groups.go k hS.groups hS.lists hS.ro hc⟩
theorem PartsAt.snoc {col:bU}{w:World}{P:Nat}{ps:List Nat}{l:List (Nat×Pl.Part)}(h:PartsAt col w P ps l){p:Nat}{q:Nat×Pl.Part}{dv av:Value}(hp:jU col w P p q.2 dv av):PartsAt col w P (ps++[p]) (l++[q]):=by
 refine⟨by simp[h.1],fun i p' q' a b=>?_⟩;by_cases hi:i<ps.length
 ·rw[aS hi]at a;rw[aS (by rw[←h.1];exact hi)]at b;exact h.2 i p' q' a b
 ·rw[aP af]at a;rw[aP (by rw[←h.1];omega)]at b;rw[List.getElem?_singleton]at a b;split at a
  ·rw[if_pos (by rw[←h.1];assumption)]at b;cases a;cases b;exact⟨_,_,hp⟩
  ·cases a
theorem Dh (ps:List Nat)(l:List (Nat×Pl.Part))(p:Nat)(q:Nat×Pl.Part)(h:ps.length=l.length):gu (ps++[p]) (l++[q])=gu ps l++gN p q:=by
 unfold gu;rw[List.zipWith_append h];simp
theorem Bh (ps:List Nat)(l:List (Nat×Pl.Part))(p:Nat)(q:Nat×Pl.Part)(h:ps.length=l.length):pV (ps++[p]) (l++[q])=pV ps l++mP p q:=by
 unfold pV;rw[List.zipWith_append h];simp
theorem fA.Ho {col:bU}{w u w1:World}{P p:Nat}{m:Pl.Sc}{x:Pl.Part}{ps qs:List Nat}{nv av wv hv gv dv xv eZ:Value}(h:fA col w P m ps qs nv av wv hv gv)(hp:jU col w P p x dv xv)(hn:p∉ps++qs)(hu:Ext w u)(k:Kp (Of av) u w1)(s:Sep u av eZ)(o:Own w1 5 eZ (m.asked.length+1) (gu ps m.asked++gN p (m.bW,x))):
 fA (fo col w.heap.size w1.heap.size .asked) (w1.setCell ⟨P,10,none⟩ eZ) P {m with asked:=m.asked++[(m.bW,x)]} (ps++[p]) qs nv eZ wv hv gv∧cu col w (w1.setCell ⟨P,10,none⟩ eZ) (fo col w.heap.size w1.heap.size .asked):=by
 have kw:Kp (Of av) w w1:=(Kp.cZ hu).trans k;have hc:∀i,i<w.heap.size→fo col w.heap.size w1.heap.size .asked i=col i:=fun i hi=>kH _ _ _ _ _ hi
 have ja:∀i,Of av i→col i=.asked:=fun i hi=>h.inn.jd i hi
 have hcalm:Calm col (Of av):=Calm.one .asked ja aj aj aj aj aj;have r:=h.inn.rest kw hcalm hc;have hp1:=hp.go kw (fun e=>hcalm.part p e hp.cB) (hcalm.data p) hcalm.ro hc;have Bj:=h.blk.lt;have Di:¬Of av P:=fun e=>by have:=ja P e;rw[h.inn.cB]at this;simp at this
 have hb1:=h.blk.kept kw Di;have hin:Inner (fo col w.heap.size w1.heap.size .asked) w1 P {m with asked:=m.asked++[(m.bW,x)]} (ps++[p]) qs nv eZ wv hv gv:=by
  refine⟨by rw[hc P Bj];exact h.inn.cB,fun i hi=>by rw[nS _ _ _ _ _ hi];exact h.inn.top i (aO kw.size hi),r.names,?_,fun g hg=>?_,r.eY.snoc (q:=(m.bW,x)) hp1,?_,fun g hg=>by rw[hc g (h.inn.waiting.lt hg)];exact h.inn.jW g hg,r.gI,?_,r.ahead,r.groups⟩
  ·rw[Dh _ _ _ _ h.inn.eY.1];simpa using o
  ·rcases s with e|⟨g',e1,e2⟩
   ·rw[e]at hg;rw[hc g (h.inn.asked.lt hg)];exact h.inn.jd g hg
   ·rw[e1]at hg;simp only[Option.some.injEq]at hg;subst hg;exact nT _ _ _ _ _ (by have:=hu.size;omega) (o.lt e1)
  ·exact h.inn.waiting.kept kw (fun g hg hs=>by have:=ja g hs;rw[h.inn.jW g hg]at this;simp at this)
  ·have:=h.inn.nodup;rw[aW];refine(List.nodup_append.2 ⟨(List.nodup_append.1 this).1,?_,?_⟩)
   ·simp only[List.singleton_append,List.nodup_cons];exact⟨fun hq=>hn (aI.2 (.inr hq)),(List.nodup_append.1 this).2.1⟩
   ·intro a ha b hb;simp only[List.singleton_append,List.mem_cons]at hb;rcases hb with rfl|hb
    ·exact fun e=>hn (aI.2 (.inl (e▸ha)))
    ·exact(List.nodup_append.1 this).2.2 a ha b hb
 refine⟨⟨?_,hin.put (bI w1 P 10 eZ) hb1.lt⟩,⟨?_,hc⟩⟩
 ·have:=hb1.set 10 eZ;simpa[dw,lT]using this
 ·refine(kw.mono (fun i _ hi=>?_)).setCell (p:=⟨P,10,none⟩) (.inl ?_) eZ
  ·show col i≠.out;rw[ja i hi];simp
  ·show col P≠.out;rw[h.inn.cB];simp
theorem IV (w:World)(cur:List UInt8):Src Tryz.prog 1 76 (.slice (some ⟨w.heap.size,0,none⟩) cur.length cur.length) cur.length (cur.map B) (w.alloc (.cells (cur.map B).toArray 5)):=
 Src.ofSlice (P:=Tryz.prog) _ (e':=5) Tryz.underlying76 _ _ _ _ aj (fun j u hu=>by
  rw[Addr.add_lit,Nat.zero_add,World.cell?_alloc_new,List.getElem?_toArray];exact hu) (YH _)
theorem q9 {x:Int}(n:Nat)(h:x=n)(hn:n<256):Value.int .u8 x=B (UInt8.ofNat n):=by
 subst h;unfold B;rw[UInt8.toNat_ofNat',Nat.mod_eq_of_lt (by simpa using hn)]
theorem Ph (w:World)(x:Int)(b:UInt8)(h:Value.int .u8 x=B b):Src Tryz.prog 1 76 (.slice (some ⟨w.heap.size,0,none⟩) 1 1) 1 ([b].map B) (w.alloc (.cells #[.int .u8 x] 5)):=by
 rw[h];exact IV w [b]
theorem Pj (w:World)(arr:Array Value)(k:Nat)(cur:List UInt8)(hk:k=cur.length)(h:arr=(cur.map B).toArray):Src Tryz.prog 1 76 (.slice (some ⟨w.heap.size,0,none⟩) k k) k (cur.map B) (w.alloc (.cells arr 5)):=by
 subst hk;subst h;exact IV w cur
theorem Fp (n:Nat)(h:n<65536):#[Value.int .u8 ((n:Int)/256),Value.int .u8 ((n:Int)%256)]=([UInt8.ofNat (n/256),UInt8.ofNat (n%256)].map B).toArray:=by
 rw[q9 (x:=(n:Int)/256) (n/256) af af,q9 (x:=(n:Int)%256) (n%256) af af];rfl
theorem IW (ds:List UInt8):#[Value.int .u8 ((Pl.sumOf ds:Int)/16777216%256),Value.int .u8 ((Pl.sumOf ds:Int)/65536%256),Value.int .u8 ((Pl.sumOf ds:Int)/256%256),Value.int .u8 ((Pl.sumOf ds:Int)%256)]=((Pl.oM ds).map B).toArray:=by
 have h:=Pl.sW ds;unfold Pl.oM Pl.dz;generalize Pl.sumOf ds=n at*;rw[q9 (x:=(n:Int)/16777216%256) (n/16777216) af af,q9 (x:=(n:Int)/65536%256) (n/65536%256) af af,q9 (x:=(n:Int)/256%256) (n/256%256) af af,q9 (x:=(n:Int)%256) (n%256) af af];rfl
theorem xS {w:World}{v:Value}{bs:List UInt8}(h:dZ w v bs)(o:Obj):dZ (w.alloc o) v bs:=h.ext (Kp.alloc ax _)
theorem qI {w wr w1:World}{v t:Value}{o:Obj}(h:Kp (Of v) w wr)(hs:Sep w v t)(k:Kp (Of t) (wr.alloc o) w1):Kp (Of v) w w1:=
 (h.alloc o).then k (fun i hi e=>by
  rcases hs with hs|⟨g,h1,h2⟩
  ·show v.ownBlock=some i;rw[←hs];exact e
  ·have e':t.ownBlock=some i:=e;rw[h1]at e';simp at e';omega)
theorem pX {w wr:World}{v t u:Value}{o:Obj}(h:Kp (Of v) w wr)(hs:Sep w v t)(k:Sep (wr.alloc o) t u):Sep w v u:=
 hs.trans (h.alloc o).size k
theorem gY (w:World)(v:Value)(bs:List UInt8)(n:Int)(hown:dZ w v bs)(h0:0≤n)(h1:n≤1099511627775)(hb:bs.length≤10000):
 Calls Tryz.prog 97 #[v,.int .i64 n] w fun e w'=>∃v',e=.returned v'∧dZ w' v' (bs++Pl.dG n.toNat)∧Kp (Of v) w w'∧Sep w v v':=by
 go_enter Tryz.func97,Tryz.ntmps97;go_wp2;go_loopw [0,1] (fun t i wr=>∃(m:Nat)(done:List UInt8),i=.int .i64 m∧m≤1099511627775∧done++Pl.dG m=Pl.dG n.toNat∧dZ wr t (bs++done)∧Kp (Of v) w wr∧Sep w v t) (fun _ i _=>(intOf i).toNat)
 case atStart=>exact⟨n.toNat,[],by rw[Int.toNat_of_nonneg h0],af,rfl,by simpa using hown,Kp.refl _ _,Sep.refl _ _⟩
 case round=>
  obtain⟨m,done,rfl,hm,hdone,hown',hk,hs⟩:=hrel;have hlen:=Pl.eB 5 n.toNat (by simp;omega);have Qt:done.length+(Pl.dG m).length≤6:=by rw[←hdone]at hlen;simpa using hlen
  have HD:Hid (done++Pl.dG m=Pl.dG n.toNat):=hdone;clear hdone hlen;by_cases h128:128≤m
  ·go_wp2_with (at_builtin;go_must (refine jq _ rfl _ _ 76 rfl _ _ rfl (xS hown' _) _ rfl 1 [UInt8.ofNat (m%128+128)] (Ph _ _ _ (q9 _ af af)) (by simp;omega) ?_);intro v1 w1 o1 k1 s1)
   go_roundw
   case rel=>exact⟨m/128,done++[UInt8.ofNat (m%128+128)],by go_num,af,by rw[←HD.out,Pl.Hf m h128];simp,by simpa using o1,qI hk hs k1,pX hk hs s1⟩
   case measure=>simp[intOf];omega
  ·go_wp2_with (at_builtin;go_must (refine jq _ rfl _ _ 76 rfl _ _ rfl (xS hown' _) _ rfl 1 [UInt8.ofNat m] (Ph _ _ _ (q9 _ af af)) (by simp;omega) ?_);intro v1 w1 o1 k1 s1)
   go_ret;exact⟨_,rfl,by rw[←HD.out,Pl.CR m af];simpa using o1,qI hk hs k1,pX hk hs s1⟩
theorem dZ.tJ {w:World}{v:Value}{bs:List UInt8}(h:dZ w v bs)(hne:0<bs.length):∃g cap,v=.slice (some ⟨g,0,none⟩) bs.length cap∧bs.length≤cap∧cap≤maxLen∧g<w.heap.size∧
 (∀j,j<bs.length→w.cell? ⟨g,j,none⟩=some (.int .u8 ((bs.getD j 0).toNat))):=by
 rcases h with⟨rfl,rfl⟩|⟨g,cap,rfl,h1,h2,h3,h4,_⟩
 ·simp at hne
 ·refine⟨g,cap,rfl,h1,h2,h3,fun j hj=>?_⟩;rw[h4 j hj];simp[B,ay hj]
theorem Z9 (a b:Nat)(ha:a<4294967296)(hb:b<4294967296):bits .xor .u32 (a:Int) (b:Int)=((a^^^b:Nat):Int):=by
 have hx:a^^^b<2^32:=Nat.xor_lt_two_pow af af;have h1:(BitVec.ofInt 32 (a:Int)).toNat=a:=by
  rw[BitVec.ofInt_natCast,BitVec.toNat_ofNat];exact Nat.mod_eq_of_lt af
 have h2:(BitVec.ofInt 32 (b:Int)).toNat=b:=by
  rw[BitVec.ofInt_natCast,BitVec.toNat_ofNat];exact Nat.mod_eq_of_lt af
 show IntKind.u32.wrap ((BitVec.ofInt 32 (a:Int)^^^BitVec.ofInt 32 (b:Int)).toNat:Int)=_;rw[BitVec.toNat_xor,h1,h2];simp only[IntKind.wrap,IntKind.bits,IntKind.signed];simp;omega
theorem Es (h:Nat)(b:UInt8)(hh:h<4294967296):bits .xor .u32 (h:Int) ((b.toNat:Int)%4294967296)*16777619%4294967296=(Pl.qY h b:Nat):=by
 have hb:=b.toNat_lt;rw[show((b.toNat:Int)%4294967296)=((b.toNat:Nat):Int)from af,Z9 _ _ hh af];unfold Pl.qY;omega
theorem Et (bs:List UInt8)(k:Nat)(hk:k<bs.length):Pl.sumOf (bs.take (k+1))=Pl.qY (Pl.sumOf (bs.take k)) bs[k]:=by
 unfold Pl.sumOf;rw[aF hk,Pl.KP]
theorem S_ (w:World)(v:Value)(bs:List UInt8)(hown:dZ w v bs)(hne:0<bs.length)(hb:bs.length≤10000):
 Calls Tryz.prog 153 #[v] w fun e w'=>e=.returned (.int .u32 (Pl.sumOf bs))∧w'=w:=by
 obtain⟨g,cap,rfl,h1,h2,h3,hc⟩:=hown.tJ hne;clear hown;go_enter Tryz.func153,Tryz.ntmps153;go_wp2
 go_loop [3,8] (fun t i=>∃k:Nat,k≤bs.length∧i=.int .i64 k∧t=.int .u32 (Pl.sumOf (bs.take k))) (fun _ i=>bs.length-(intOf i).toNat)
 case atStart=>exact⟨0,aM _,rfl,rfl⟩
 case round=>
  obtain⟨k,hk,rfl,rfl⟩:=hrel;have hlt:=Pl.sW (bs.take k);by_cases hkl:k<bs.length
  ·have hck:=hc k hkl
   go_wp2_with fail
   go_round
   case rel=>
    refine⟨k+1,af,by go_num,?_⟩;rw[Et bs k hkl,←Es _ _ hlt]
   case measure=>simp[intOf];omega
  ·go_wp2_with fail
   go_ret;rw[List.take_of_length_le af];exact⟨rfl,rfl⟩
theorem Hq (w:World)(v:Value)(bs:List UInt8)(n:Nat)(hown:dZ w v bs)(h1:n<65536)(hb:bs.length≤10000):
 Calls Tryz.prog 115 #[v,.int .i64 n] w fun e w'=>∃v',e=.returned v'∧dZ w' v' (bs++[UInt8.ofNat (n/256),UInt8.ofNat (n%256)])∧Kp (Of v) w w'∧Sep w v v':=by
 go_enter Tryz.func115,Tryz.ntmps115
 go_wp2_with (at_builtin;go_must (refine jq _ rfl _ _ 76 rfl _ _ rfl (xS hown _) _ rfl 2 [UInt8.ofNat (n/256),UInt8.ofNat (n%256)] (Pj _ _ _ _ rfl (Fp n h1)) af ?_);intro v1 w1 o1 k1 s1)
 go_ret;exact⟨_,rfl,o1,qI ax (Sep.refl _ _) k1,pX (v:=v) ax (Sep.refl _ _) s1⟩
theorem Kg (w:World)(v d:Value)(bs ds:List UInt8)(hown:dZ w v bs)(hd:dZ w d ds)(hne:0<ds.length)(hb:bs.length≤10000)(hb2:ds.length≤10000):
 Calls Tryz.prog 138 #[v,d] w fun e w'=>∃v',e=.returned v'∧dZ w' v' (bs++Pl.oM ds)∧Kp (Of v) w w'∧Sep w v v':=by
 go_enter Tryz.func138,Tryz.ntmps138
 go_wp2_with (first|(go_at_call 153;refine(S_ _ _ _ hd hne hb2).mono ?_;rintro e w' ⟨rfl,rfl⟩)|(at_builtin;go_must (refine jq _ rfl _ _ 76 rfl _ _ rfl (xS hown _) _ rfl 4 (Pl.oM ds) (Pj _ _ _ _ rfl (IW ds)) af ?_);intro v1 w1 o1 k1 s1))
 go_ret;exact⟨_,rfl,o1,qI ax (Sep.refl _ _) k1,pX (v:=v) ax (Sep.refl _ _) s1⟩
theorem CU {w wr w1:World}{v t:Value}(h:Kp (Of v) w wr)(hs:Sep w v t)(k:Kp (Of t) wr w1):Kp (Of v) w w1:=
 h.then k (fun i hi e=>by
  rcases hs with hs|⟨g,h1,h2⟩
  ·show v.ownBlock=some i;rw[←hs];exact e
  ·have e':t.ownBlock=some i:=e;rw[h1]at e';simp at e';omega)
theorem Ay (xs:List Int)(k:Nat)(h:k<xs.length):Pl.plain (xs.take (k+1))=Pl.plain (xs.take k)++Pl.dG xs[k].toNat:=by
 rw[aF h,Pl.Qs]
theorem xU (xs:List Int)(h:∀x∈xs,0≤x∧x≤1099511627775):(Pl.plain xs).length≤6*xs.length:=by
 induction xs with
 |nil=>simp[Pl.plain]
 |cons x r ih=>
  have h1:=Pl.eB 5 x.toNat (by have:=h x aj;simp;omega);have h2:=ih (fun y hy=>h y (by simp[hy]));simp only[Pl.plain,List.flatMap_cons,aD,aR]at*;omega
theorem Hr (B0:Nat)(w:World)(v pg:Value)(xs:List Int)(bs:List UInt8)(hr:jD B0 w v xs)(hown:dZ w pg bs)(hpg:∀g,pg.ownBlock=some g→B0≤g)(hx:∀x∈xs,0≤x∧x≤1099511627775)(hl:xs.length≤20)(hb:bs.length≤100):
 Calls Tryz.prog 154 #[v,pg] w fun e w'=>∃v',e=.returned (.tuple #[v',.bool true])∧dZ w' v' (bs++Pl.plain xs)∧Kp (Of pg) w w'∧Sep w pg v':=by
 have hr0:=hr;obtain⟨ao,cap,rfl,h1,h2,h3⟩:=jD.open hr;clear h3 hr;go_enter Tryz.func154,Tryz.ntmps154;go_wp2;go_loopw [1,10] (fun t i wr=>∃k:Nat,k≤xs.length∧i=.int .i64 k∧dZ wr t (bs++Pl.plain (xs.take k))∧Kp (Of pg) w wr∧Sep w pg t) (fun _ i _=>xs.length-(intOf i).toNat)
 case atStart=>exact⟨0,aM _,rfl,by simpa[Pl.plain]using hown,Kp.refl _ _,Sep.refl _ _⟩
 case round=>
  obtain⟨k,hk,rfl,hown',hkp,hs⟩:=hrel;have hpl:=xU (xs.take k) (fun x hx'=>hx x (List.mem_of_mem_take hx'));by_cases hkl:k<xs.length
  ·obtain⟨KQ,cap',he,_,_,h3⟩:=jD.open (hr0.kept hkp (fun i e=>hpg i e));cases he;obtain⟨b,off,rfl,hb0,hc⟩:=h3 af;have hck:=hc k hkl;have hxk:=hx xs[k] (aJ hkl);clear hc h3 hr0 hx;simp only[aU]at hpl
   go_wp2_with (go_at_call 97;go_must (refine(gY _ _ _ _ hown' af af (by simp;omega)).mono ?_);rintro e w1 ⟨v1,rfl,o1,k1,s1⟩)
   go_roundw
   case rel=>exact⟨k+1,af,by go_num,by rw[Ay xs k hkl,←aW];exact o1,CU hkp hs k1,hs.trans hkp.size s1⟩
   case measure=>simp[intOf];omega
  ·go_wp2_with fail
   go_ret2
   exact⟨_,rfl,by rw[List.take_of_length_le af]at hown';exact hown',hkp,hs⟩
theorem Bn (x:Int):∀(xs:List Int)(k:Nat),(∀j,j<k→xs.getD j 0=x)→k≤xs.length→(∀_:k<xs.length,xs.getD k 0≠x)→Pl.iw x xs=k:=by
 intro xs;induction xs with
 |nil=>intro k _ h2 _;simp at h2;simp[Pl.iw,h2]
 |cons y r ih=>
  intro k h1 h2 h3;cases k with
  |zero=>have:=h3 aj;simp at this;simp[Pl.iw,this]
  |succ k=>
   have h0:=h1 0 af;simp at h0;simp only[Pl.iw,h0,if_true];rw[ih k (fun j hj=>by have:=h1 (j+1) af;simpa using this) (by simp at h2;omega) (fun hk=>by have:=h3 (by simp;omega);simpa using this)]
theorem KY (B0:Nat)(w:World)(v:Value)(xs:List Int)(hr:jD B0 w v xs)(_hl:xs.length≤20)(hp:0<xs.length):
 Calls Tryz.prog 171 #[v] w fun e w'=>e=.returned (.int .i64 (Pl.iw (xs.getD 0 0) xs))∧w'=w:=by
 obtain⟨ao,cap,rfl,h1,h2,h3⟩:=jD.open hr;obtain⟨b,off,rfl,hb,hc⟩:=h3 hp;clear h3 hr;have hc0:=hc 0 hp;simp only[Nat.add_zero]at hc0;generalize hx:xs.getD 0 0=x at*;have HX:=hide hx;clear hx;go_enter Tryz.func171,Tryz.ntmps171;go_wp2
 go_loop [7] (fun i=>∃k:Nat,k≤xs.length∧i=.int .i64 k∧Hid (∀j,j<k→xs.getD j 0=x)) (fun i=>xs.length-(intOf i).toNat)
 case atStart=>exact⟨0,aM _,rfl,fun j hj=>absurd hj af⟩
 case round=>
  obtain⟨k,hk,rfl,hall⟩:=hrel;by_cases hkl:k<xs.length
  ·have hck:=hc k hkl;generalize hy:xs.getD k 0=y at*;have HY:=hide hy;clear hy hc;by_cases hxy:y=x
   ·have hn:(y !=x)=false:=by simp[hxy]
    have HXY:=hide hxy;clear hxy
    go_wp2_with fail
    go_round
    case rel=>exact⟨k+1,af,by go_num,fun j hj=>by
     by_cases e:j=k
     ·subst e;rw[bH HY,bH HXY]
     ·exact hall.out j af⟩
    case measure=>simp[intOf];omega
   ·have hn:(y !=x)=true:=by simp[hxy]
    have HXY:=hide hxy;clear hxy
    go_wp2_with fail
    go_ret;refine⟨?_,rfl⟩;rw[Bn x xs k hall.out af (fun _=>by rw[bH HY];exact bH HXY)];rfl
  ·go_wp2_with fail
   go_ret;refine⟨?_,rfl⟩;rw[Bn x xs xs.length (fun j hj=>hall.out j af) af (fun h=>absurd h af)];rfl
theorem Kh (B0:Nat)(w:World)(v pg:Value)(xs:List Int)(bs:List UInt8)(hr:jD B0 w v xs)(hown:dZ w pg bs)(hpg:∀g,pg.ownBlock=some g→B0≤g)(hx:∀x∈xs,0≤x∧x≤1099511627775)(hl:xs.length≤20)(hb:bs.length≤100):
 Calls Tryz.prog 156 #[v,pg] w fun e w'=>∃v',e=.returned (.tuple #[v',.bool true])∧dZ w' v' (bs++Pl.runs xs)∧Kp (Of pg) w w'∧Sep w pg v':=by
 go_enter Tryz.func156,Tryz.ntmps156;go_wp2;go_loopw [0,1] (fun a t wr=>∃(ys:List Int)(done:List UInt8),jD B0 w a ys∧(∀x∈ys,0≤x∧x≤1099511627775)∧ys.length≤20∧done.length+8*ys.length≤1000∧Hid (done++Pl.runs ys=bs++Pl.runs xs)∧dZ wr t done∧Kp (Of pg) w wr∧Sep w pg t) (fun a _ _=>(match a with|.slice _ n _=>n|_=>0))
 case atStart=>exact⟨xs,bs,hr,hx,hl,af,rfl,hown,Kp.refl _ _,Sep.refl _ _⟩
 case round=>
  obtain⟨ys,done,hry,hy,hyl,hdl,HD,hown',hkp,hs⟩:=hrel;obtain⟨ao,cap,rfl,h1,h2,h3⟩:=jD.open hry;by_cases hkl:0<ys.length
  ·obtain⟨b,off,rfl,hb0,hc⟩:=h3 hkl;have hrw:=hry.kept hkp (fun i e=>hpg i e);obtain⟨x0,r,rfl⟩:∃x0 r,ys=x0::r:=by cases ys with
    |nil=>simp at hkl
    |cons x0 r=>exact⟨x0,r,rfl⟩
   have hx0:=hy x0 aj;have hc0:=hc 0 hkl;simp only[Nat.add_zero,List.getD_cons_zero]at hc0;have hq1:1≤Pl.iw x0 (x0::r):=by simp[Pl.iw]
   have hq2:=Pl.IL x0 (x0::r);have hq3:Pl.iw x0 (x0::r)=Pl.iw x0 r+1:=by simp[Pl.iw]
   generalize hL:(x0::r).length=L at*;generalize hq:Pl.iw x0 (x0::r)=q at*;have HL:=hide hL;have HQ:=hide hq3;have HQ0:=hide hq;clear hL hq hq3 hc h3;have hlq:=Pl.eB 0 q af;have hlx:=Pl.eB 5 x0.toNat (by simp;omega)
   go_wp2_with fail
   have hfr:=KY B0 wr _ _ hrw (by rw[HL.out];exact hyl) (by rw[HL.out];exact hkl);rw[show Pl.iw ((x0::r).getD 0 0) (x0::r)=q from HQ0.out]at hfr;refine hfr.mono ?_;clear hfr;rintro e w1 ⟨rfl,rfl⟩
   go_wp2_with fail
   refine(gY _ _ _ (q:Int) hown' af af af).mono ?_;rintro e w2 ⟨v2,rfl,o2,k2,s2⟩;have WK:=CU hkp hs k2;have hs2:=hs.trans hkp.size s2;have hc2:=WK.cell hc0 (fun e=>by have:=hpg _ e;simp at this;omega)
   go_wp2_with fail
   refine(gY _ _ _ x0 o2 af af (by simp;omega)).mono ?_;rintro e w3 ⟨v3,rfl,o3,k3,s3⟩;have hkp3:=CU WK hs2 k3;have hs3:=hs2.trans WK.size s3
   go_wp2_with fail
   have hdrop:jD B0 w (Value.slice (if cap=q then some {block:=b,off:=off}else some {block:=b,off:=off+q}) (L-q) (cap-q)) ((x0::r).drop q):=by
    have:=Rd.drop hry (q:=q) (by rw[aQ,HL.out]) af;rw[←List.map_drop]at this;exact this
   have ze:((x0::r).drop q).length=L-q:=by rw[bq,HL.out]
   refine⟨⟨(x0::r).drop q,done++Pl.dG q++Pl.dG x0.toNat,hdrop,fun x hx=>hy x (List.mem_of_mem_drop hx),af,?_,?_,?_,hkp3,hs3⟩,?_⟩
   ·simp only[aD];omega
   ·have:=HD.out;rw[Pl.A8,←HQ.out]at this;show done++Pl.dG q++Pl.dG x0.toNat++Pl.runs ((x0::r).drop q)=bs++Pl.runs xs;rw[←this,show(x0::r).drop q=r.drop (Pl.iw x0 r) by rw[HQ.out];rfl];simp
   ·simpa using o3
   ·simp;omega
  ·go_wp2_with fail
   go_ret2
   obtain rfl:ys=[]:=aT af;exact⟨_,rfl,by rw[←HD.out,Pl.zL,List.append_nil];exact hown',hkp,hs⟩
theorem Fq (B0:Nat)(w:World)(v pg:Value)(xs:List Int)(bs:List UInt8)(hr:jD B0 w v xs)(hown:dZ w pg bs)(hpg:∀g,pg.ownBlock=some g→B0≤g)(hx:∀x∈xs,0≤x∧x≤1099511627775)(hl:xs.length≤20)(hb:bs.length≤100):
 Calls Tryz.prog 158 #[v,pg] w fun e w'=>∃v',e=.returned (.tuple #[v',.bool (Pl.rises 0 xs)])∧(Pl.rises 0 xs=true→dZ w' v' (bs++Pl.rising 0 xs)∧Sep w pg v')∧(Pl.rises 0 xs=false→v'=.slice none 0 0)∧Kp (Of pg) w w':=by
 have hr0:=hr;obtain⟨ao,cap,rfl,h1,h2,h3⟩:=jD.open hr;clear h3 hr;go_enter Tryz.func158,Tryz.ntmps158;go_wp2;go_loopw [1,6,11] (fun t p i wr=>∃(k:Nat)(a:Int)(done:List UInt8),k≤xs.length∧i=.int .i64 k∧p=.int .i64 a∧0≤a∧a≤1099511627775∧done.length≤100+6*k∧Hid (Pl.rises 0 xs=Pl.rises a (xs.drop k))∧Hid (done++Pl.rising a (xs.drop k)=bs++Pl.rising 0 xs)∧dZ wr t done∧Kp (Of pg) w wr∧Sep w pg t) (fun _ _ i _=>xs.length-(intOf i).toNat)
 case atStart=>exact⟨0,0,bs,aM _,rfl,rfl,af,af,af,rfl,rfl,hown,Kp.refl _ _,Sep.refl _ _⟩
 case round=>
  obtain⟨k,a,done,hk,rfl,rfl,ha0,ha1,hdl,HR,HD,hown',hkp,hs⟩:=hrel;by_cases hkl:k<xs.length
  ·obtain⟨KQ,cap',he,_,_,h3⟩:=jD.open (hr0.kept hkp (fun i e=>hpg i e));cases he;obtain⟨b,off,rfl,hb0,hc⟩:=h3 af;have hck:=hc k hkl;rw[show xs.getD k 0=xs[k] by simp[hkl]]at hck;have hxk:=hx xs[k] (aJ hkl);have hdr:xs.drop k=xs[k]::xs.drop (k+1):=aV hkl;rw[hdr]at HR HD;clear hdr;generalize xs[k]=x at*;clear hc h3 hr0 hx;by_cases hlt:x<a
   ·go_wp2_with fail
    go_ret2
    have e:Pl.rises 0 xs=false:=by rw[HR.out];simp[Pl.rises];omega
    rw[e];exact⟨_,rfl,(fun h=>by cases h),fun _=>rfl,hkp⟩
   ·have hlv:=Pl.eB 5 (x-a).toNat (by simp;omega)
    go_wp2_with (go_at_call 97;go_must (refine(gY _ _ _ _ hown' af af af).mono ?_);rintro e w1 ⟨v1,rfl,o1,k1,s1⟩)
    go_roundw
    case rel=>exact⟨k+1,x,done++Pl.dG (x-a).toNat,af,by go_num,rfl,af,af,by simp only[aD];omega,by
     show _=_;rw[HR.out];simp only[Pl.rises];rw[aH (by omega:a≤x)];rfl,by
     show _=_;rw[←HD.out];simp[Pl.rising],o1,CU hkp hs k1,hs.trans hkp.size s1⟩
    case measure=>simp[intOf];omega
  ·go_wp2_with fail
   go_ret2
   have hdr:xs.drop k=[]:=List.drop_eq_nil_of_le af;rw[hdr]at HR HD;have e:Pl.rises 0 xs=true:=HR.out;rw[e];exact⟨_,rfl,fun _=>⟨by rw[←HD.out];simpa[Pl.rising]using hown',hs⟩,(fun h=>by cases h),hkp⟩
abbrev F (n:Nat):Value:=.func (.func n) #[] #[]
abbrev xV :Value:=.agg #[F 154,F 155,F 156,F 157,F 158,F 159]
theorem zN (w:World):Calls Tryz.prog 139 #[] w fun e w'=>e=.returned xV∧Ext w w':=by
 go_enter Tryz.func139,Tryz.ntmps139;go_wp2;refine bodyPost_ret (v:=xV) (by simp[results,Tryz.results139,go_sem]) rfl ⟨rfl,?_⟩;exact Kp.alloc ax _
theorem uI (w:World)(arr:Array Value)(n:Nat)(cur:List UInt8)(hn:n=cur.length)(h:arr=(cur.map B).toArray)(hm:n≤1000000):dZ (w.alloc (.cells arr 5)) (.slice (some ⟨w.heap.size,0,none⟩) n n) cur:=by
 subst hn;subst h;refine .inr ⟨w.heap.size,cur.length,rfl,aK _,by unfold maxLen;omega,aj,fun j hj=>?_,fun j hj=>⟨?_,?_⟩⟩
 ·rw[World.cell?_alloc_new,List.getElem?_toArray]
 ·rw[World.cell?_alloc_new,List.getElem?_toArray,ay (by simpa using hj)];rfl
 ·exact World.frozen?_alloc_new w _ _ j
def iH (xs:List Int):Nat→List UInt8
 |0=>[]
 |1=>(0:UInt8)::Pl.plain xs
 |2=>if((1:UInt8)::Pl.runs xs).length<((0:UInt8)::Pl.plain xs).length then(1:UInt8)::Pl.runs xs else(0:UInt8)::Pl.plain xs
 |_=>Pl.page xs
theorem Eu (f:Nat):∀(l:List Int),l.length≤f→l.length≤20→(∀x∈l,0≤x∧x≤1099511627775)→(Pl.runs l).length≤7*l.length:=by
 induction f with
 |zero=>intro l h _ _;rw[aT (by omega:l.length=0),Pl.zL];simp
 |succ f ih=>
  intro l h h20 hx;cases l with
  |nil=>rw[Pl.zL];simp
  |cons x r=>
   rw[Pl.A8];have h1:=Pl.IL x r;have h2:=Pl.eB 0 (Pl.iw x r+1) (by simp at h20⊢;omega);have h3:=Pl.eB 5 x.toNat (by have:=hx x aj;simp;omega);have h4:=ih (r.drop (Pl.iw x r)) (by simp at*;omega) (by simp at*;omega) (fun y hy=>hx y (by simp[List.mem_of_mem_drop hy]));simp only[aD,bq,aR]at*;omega
theorem Fs (l:List Int):∀a,0≤a→(∀x∈l,0≤x∧x≤1099511627775)→(Pl.rising a l).length≤6*l.length:=by
 induction l with
 |nil=>intro a _ _;simp[Pl.rising]
 |cons x r ih=>
  intro a ha hx;have hx0:=hx x aj;have h1:=Pl.eB 5 (x-a).toNat (by simp;omega);have h2:=ih x hx0.1 (fun y hy=>hx y (by simp[hy]));simp only[Pl.rising,aD,aR];omega
theorem zO (xs:List Int)(hl:xs.length≤20)(hx:∀x∈xs,0≤x∧x≤1099511627775):(Pl.page xs).length≤141∧1≤(Pl.page xs).length:=by
 have h0:=xU xs hx;have h1:=Eu _ xs (aK _) hl hx;have h2:=Fs xs 0 af hx;unfold Pl.page;simp only
 repeat' split
 all_goals simp only[aR]
 all_goals omega
theorem vB (xs:List Int)(k:Nat)(hk:1≤k)(hl:xs.length≤20)(hx:∀x∈xs,0≤x∧x≤1099511627775):(iH xs k).length≤141∧1≤(iH xs k).length:=by
 have h0:=xU xs hx;have h1:=Eu _ xs (aK _) hl hx
 match k,hk with
 |1,_=>simp only[iH,aR];omega
 |2,_=>simp only[iH];split<;>simp only[aR]<;>omega
 |k+3,_=>exact zO xs hl hx
theorem dZ.block {w:World}{v:Value}{b:UInt8}{bs:List UInt8}(h:dZ w v ([b]++bs)):∃g,v.ownBlock=some g:=by
 obtain⟨g,cap,rfl,-⟩:=h.tJ aj;exact⟨g,rfl⟩
theorem zP {w wr w1:World}{v1:Value}{o:Obj}(hext:Ext w wr)(k1:Kp (Of (.slice (some ⟨wr.heap.size,0,none⟩) 1 1)) (wr.alloc o) w1)(s1:Sep (wr.alloc o) (.slice (some ⟨wr.heap.size,0,none⟩) 1 1) v1)(_hg:∃g,v1.ownBlock=some g):
 Ext w w1∧∃g,v1.ownBlock=some g∧w.heap.size≤g:=by
 have hz:=hext.size;refine⟨(hext.alloc o).then k1 (fun i hi e=>?_),?_⟩
 ·have e':some wr.heap.size=some i:=e;simp at e';omega
 ·rcases s1 with s|⟨g,h1,h2⟩
  ·exact⟨wr.heap.size,s,hz⟩
  ·exact⟨g,h1,by simp at h2;omega⟩
theorem Ht (t e:TypeId)(h:Tryz.prog.underlying t=some (.slice e))(u:World):(binOp .eql t (.slice none 0 0) (.slice none 0 0)).run Tryz.prog u=.ok (.bool true) u:=by
 have h1:∀d,(Op.equalIn (d+1) t (.slice none 0 0) (.slice none 0 0)).run Tryz.prog u=.ok true u:=fun d=>by simp[Op.equalIn,run_underlying h]
 simp only[binOp];simp[Op.equal,Op.maxDepth,h1 9999]
theorem KZ (t e:TypeId)(h:Tryz.prog.underlying t=some (.slice e))(u:World)(a:Addr)(l c:Nat):(binOp .eql t (.slice (some a) l c) (.slice none 0 0)).run Tryz.prog u=.ok (.bool false) u:=by
 have h1:∀d,(Op.equalIn (d+1) t (.slice (some a) l c) (.slice none 0 0)).run Tryz.prog u=.ok false u:=fun d=>by simp[Op.equalIn,run_underlying h]
 simp only[binOp];simp[Op.equal,Op.maxDepth,h1 9999]
theorem zQ (u:World)(k:Nat)(f g:Value)(hk:k<3)(hf:#[F 154,F 156,F 158][k]?=some f)(hg:#[F 155,F 157,F 159][k]?=some g):
 (Instr.index 220 xV (.int .i64 k)).run Tryz.prog u=.ok (.agg #[f,g]) u:=by
 have h3:k=0∨k=1∨k=2:=af;rcases h3 with rfl|rfl|rfl;all_goals
  simp at hf hg;subst hf;subst hg;simp[Instr.index,run_underlying Tryz.underlying220,go_sem]
theorem Ki (B0:Nat)(w:World)(v:Value)(xs:List Int)(hr:jD B0 w v xs)(hB:B0≤w.heap.size)(hx:∀x∈xs,0≤x∧x≤1099511627775)(hl:xs.length≤20):
 Calls Tryz.prog 114 #[v] w fun e w'=>∃v',e=.returned v'∧dZ w' v' (Pl.page xs)∧(∃g,v'.ownBlock=some g∧w.heap.size≤g)∧Ext w w':=by
 go_enter Tryz.func114,Tryz.ntmps114
 go_wp2_with (go_at_call 139;refine(zN _).mono ?_;rintro e w0 ⟨rfl,x0⟩)
 go_loopw [3,9] (fun t i wr=>∃k:Nat,k≤3∧i=.int .i64 k∧Ext w wr∧((k=0∧t=.slice none 0 0)∨(1≤k∧dZ wr t (iH xs k)∧∃g,t.ownBlock=some g∧w.heap.size≤g))) (fun _ i _=>3-(intOf i).toNat)
 case atStart=>exact⟨0,af,rfl,x0,.inl ⟨rfl,rfl⟩⟩
 case round=>
  obtain⟨k,hk,rfl,hext,hb⟩:=hrel;have hk4:k=0∨k=1∨k=2∨k=3:=af;rcases hk4 with rfl|rfl|rfl|rfl
  ·obtain⟨_,rfl⟩:(0:Nat)=0∧_:=hb.resolve_right af;have hi:=fun u=>zQ u 0 _ _ af rfl rfl
   simp only[Int.natCast_zero]at hi
   go_wp2_with fail
   have hxw:Ext wr (wr.alloc (.cells #[F 154,F 155] 219)):=ax.alloc _;have hz0:(wr.alloc (.cells #[F 154,F 155] 219)).heap.size=wr.heap.size+1:=aj;generalize wr.alloc (.cells #[F 154,F 155] 219)=W0 at*;rw[←hz0];have hzw:=hz0;clear hz0;replace hext:=hext.trans hxw;refine(Hr B0 _ _ _ xs [0] (hr.kept (hext.alloc _) (fun _ f=>f.elim)) (uI W0 _ 1 [0] rfl rfl af) (fun g hg=>by have:=hext.size;simp[Value.ownBlock]at hg;omega) hx hl aj).mono ?_;rintro e w1 ⟨v1,rfl,o1,k1,s1⟩;obtain⟨x1,g1,e1,f1⟩:=zP hext k1 s1 o1.block;obtain⟨g,cap,rfl,-⟩:=o1.tJ aj;have hnn:=Ht 76 _ Tryz.underlying76;have hl0:0<([(0:UInt8)]++Pl.plain xs).length:=aj;generalize hL:([(0:UInt8)]++Pl.plain xs).length=L at*;have HL:=hide hL;clear hL
   go_wp2_with fail
   go_roundw
   case rel=>exact⟨1,af,by go_num,x1,.inr ⟨af,o1,g1,e1,f1⟩⟩
   case measure=>simp[intOf]
  ·obtain⟨_,qi,gb,eb,fb⟩:=hb.resolve_left af;have ae3:=vB xs 1 af hl hx;obtain⟨gb',cb,rfl,-⟩:=qi.tJ af;generalize xX:(iH xs 1).length=Lb at*;have YI:=hide xX;clear xX;have hi:=fun u=>zQ u 1 _ _ af rfl rfl
   simp only[Int.natCast_one]at hi
   go_wp2_with fail
   have hxw:Ext wr (wr.alloc (.cells #[F 156,F 157] 219)):=ax.alloc _;have hz0:(wr.alloc (.cells #[F 156,F 157] 219)).heap.size=wr.heap.size+1:=aj;generalize wr.alloc (.cells #[F 156,F 157] 219)=W0 at*;rw[←hz0];have hzw:=hz0;clear hz0;replace hext:=hext.trans hxw;replace qi:=qi.ext hxw;refine(Kh B0 _ _ _ xs [1] (hr.kept (hext.alloc _) (fun _ f=>f.elim)) (uI W0 _ 1 [1] rfl rfl af) (fun g hg=>by have:=hext.size;simp[Value.ownBlock]at hg;omega) hx hl aj).mono ?_;rintro e w1 ⟨v1,rfl,o1,k1,s1⟩;obtain⟨x1,g1,e1,f1⟩:=zP hext k1 s1 o1.block;obtain⟨g,cap,rfl,-⟩:=o1.tJ aj;have hnn:=KZ 76 _ Tryz.underlying76;have Qu:=qi.kept (S:=fun k=>k=W0.heap.size) (w':=w1) ((Kp.alloc ax _).then k1 (fun i hi e=>by have e':some W0.heap.size=some i:=e;simp at e';omega)) (fun g hg e=>by have:=qi.lt hg;omega);have hl0:0<([(1:UInt8)]++Pl.runs xs).length:=aj;generalize hL:([(1:UInt8)]++Pl.runs xs).length=L at*;have HL:=hide hL;clear hL;by_cases hlt:L<Lb
   ·go_wp2_with fail
    go_roundw
    case rel=>exact⟨2,af,by go_num,x1,.inr ⟨af,by
     have:iH xs 2=[1]++Pl.runs xs:=by simp only[iH];rw[if_pos (by have h1:=HL.out;have h2:=YI.out;simp only[iH]at h2;simp at h1 h2⊢;omega)];rfl
     rw[this];exact o1,g1,e1,f1⟩⟩
    case measure=>simp[intOf]
   ·go_wp2_with fail
    go_roundw
    case rel=>exact⟨2,af,by go_num,x1,.inr ⟨af,by
     have:iH xs 2=iH xs 1:=by simp only[iH];rw[if_neg (by have h1:=HL.out;have h2:=YI.out;simp only[iH]at h2;simp at h1 h2⊢;omega)]
     rw[this];exact Qu,gb,eb,fb⟩⟩
    case measure=>simp[intOf]
  ·obtain⟨_,qi,gb,eb,fb⟩:=hb.resolve_left af;have ae3:=vB xs 2 af hl hx;obtain⟨gb',cb,rfl,-⟩:=qi.tJ af;generalize xX:(iH xs 2).length=Lb at*;have YI:=hide xX;clear xX;have hi:∀u,(Instr.index 220 xV (.int .i64 2)).run Tryz.prog u=.ok (.agg #[F 158,F 159]) u:=fun u=>zQ u 2 _ _ af rfl rfl
   skip
   go_wp2_with fail
   have hxw:Ext wr (wr.alloc (.cells #[F 158,F 159] 219)):=ax.alloc _;have hz0:(wr.alloc (.cells #[F 158,F 159] 219)).heap.size=wr.heap.size+1:=aj;generalize wr.alloc (.cells #[F 158,F 159] 219)=W0 at*;rw[←hz0];have hzw:=hz0;clear hz0;replace hext:=hext.trans hxw;replace qi:=qi.ext hxw;refine(Fq B0 _ _ _ xs [2] (hr.kept (hext.alloc _) (fun _ f=>f.elim)) (uI W0 _ 1 [2] rfl rfl af) (fun g hg=>by have:=hext.size;simp[Value.ownBlock]at hg;omega) hx hl aj).mono ?_;have hpg:Pl.page xs=if Pl.rises 0 xs=true∧([(2:UInt8)]++Pl.rising 0 xs).length<(iH xs 2).length then[2]++Pl.rising 0 xs else iH xs 2:=rfl;rintro e w1 ⟨v1,rfl,o1,n1,k1⟩;have Qu:=qi.kept (S:=fun k=>k=W0.heap.size) (w':=w1) ((Kp.alloc ax _).then k1 (fun i hi e=>by have e':some W0.heap.size=some i:=e;simp at e';omega)) (fun g hg e=>by have:=qi.lt hg;omega);have x1:Ext w w1:=(hext.alloc _).then k1 (fun i hi e=>by have:=hext.size;have e':some W0.heap.size=some i:=e;simp at e';omega);have hnn:=KZ 76 _ Tryz.underlying76;cases xY:Pl.rises 0 xs with
   |false=>
    obtain rfl:=n1 xY;have HP:Hid (Pl.page xs=iH xs 2):=by show _=_;rw[hpg,xY,if_neg aj]
    clear hpg xY n1 o1
    go_wp2_with fail
    go_roundw
    case rel=>exact⟨3,af,by go_num,x1,.inr ⟨af,by
     show dZ _ _ (Pl.page xs);rw[HP.out];exact Qu,gb,eb,fb⟩⟩
    case measure=>simp[intOf]
   |true=>
    obtain⟨o1,s1⟩:=o1 xY;obtain⟨_,g1,e1,f1⟩:=zP hext k1 s1 o1.block;obtain⟨g,cap,rfl,-⟩:=o1.tJ aj;have hl0:0<([(2:UInt8)]++Pl.rising 0 xs).length:=aj;rw[xY]at hpg;generalize hL:([(2:UInt8)]++Pl.rising 0 xs).length=L at*;rw[YI.out]at hpg;have HP:=hide hpg;clear hL hpg xY n1;by_cases hlt:L<Lb
    ·go_wp2_with fail
     go_roundw
     case rel=>exact⟨3,af,by go_num,x1,.inr ⟨af,by
      show dZ _ _ (Pl.page xs);rw[HP.out,if_pos ⟨trivial,hlt⟩];exact o1,g1,e1,f1⟩⟩
     case measure=>simp[intOf]
    ·go_wp2_with fail
     go_roundw
     case rel=>exact⟨3,af,by go_num,x1,.inr ⟨af,by
      show dZ _ _ (Pl.page xs);rw[HP.out,if_neg (fun h=>hlt h.2)];exact Qu,gb,eb,fb⟩⟩
     case measure=>simp[intOf]
  ·obtain⟨_,qi,gb,eb,fb⟩:=hb.resolve_left af
   go_wp2_with fail
   go_ret;exact⟨_,rfl,qi,⟨gb,eb,fb⟩,hext⟩
structure Wr (B p:Nat)(w:World)(pv fv:Value)(ps fs:List UInt8):Prop where
 hB:B≤p
 blk:w.heap[p]?=some (.cells #[pv,fv] 156 (0,0))
 op:dZ w pv ps
 of:dZ w fv fs
 bp:∀g,pv.ownBlock=some g→B≤g∧g≠p
 bf:∀g,fv.ownBlock=some g→B≤g∧g≠p
 ne:∀g,pv.ownBlock=some g→fv.ownBlock≠some g
theorem Wr.cell0 {B p:Nat}{w:World}{pv fv:Value}{ps fs:List UInt8}(h:Wr B p w pv fv ps fs):w.cell? ⟨p,0,none⟩=some pv:=by simp[World.cell?,h.blk]
theorem Wr.cell1 {B p:Nat}{w:World}{pv fv:Value}{ps fs:List UInt8}(h:Wr B p w pv fv ps fs):w.cell? ⟨p,1,none⟩=some fv:=by simp[World.cell?,h.blk]
theorem Wr.free {B p:Nat}{w:World}{pv fv:Value}{ps fs:List UInt8}(h:Wr B p w pv fv ps fs)(j:Nat):w.frozen? ⟨p,j,none⟩=false:=by simp[World.frozen?,h.blk]
theorem Wr.lt {B p:Nat}{w:World}{pv fv:Value}{ps fs:List UInt8}(h:Wr B p w pv fv ps fs):p<w.heap.size:=lt_of_block h.blk
theorem Wr.kept {S:Nat→Prop}{B p:Nat}{w w':World}{pv fv:Value}{ps fs:List UInt8}(h:Wr B p w pv fv ps fs)(k:Kp S w w')(hp:¬S p)(h1:∀g,pv.ownBlock=some g→¬S g)(h2:∀g,fv.ownBlock=some g→¬S g):Wr B p w' pv fv ps fs:=
 ⟨h.hB,by rw[k.block p h.lt hp];exact h.blk,h.op.kept k h1,h.of.kept k h2,h.bp,h.bf,h.ne⟩
theorem Wr.ext {B p:Nat}{w w':World}{pv fv:Value}{ps fs:List UInt8}(h:Wr B p w pv fv ps fs)(k:Ext w w'):Wr B p w' pv fv ps fs:=h.kept k id (fun _ _=>id) (fun _ _=>id)
theorem lJ (w:World):Ext w w.drew:=ax.drew
theorem Wr.drew {B p:Nat}{w:World}{pv fv:Value}{ps fs:List UInt8}(h:Wr B p w pv fv ps fs):Wr B p w.drew pv fv ps fs:=h.ext (lJ w)
theorem Ta {w:World}{p:Nat}{a b v:Value}{t:TypeId}(h:w.heap[p]?=some (.cells #[a,b] t (0,0))):(w.setCell ⟨p,1,none⟩ v).heap[p]?=some (.cells #[a,v] t (0,0)):=by
 simp only[World.setCell,Array.getElem?_modify,h];simp
theorem Tc {w:World}{p:Nat}{a b v:Value}{t:TypeId}(h:w.heap[p]?=some (.cells #[a,b] t (0,0))):(w.setCell ⟨p,0,none⟩ v).heap[p]?=some (.cells #[v,b] t (0,0)):=by
 simp only[World.setCell,Array.getElem?_modify,h];simp
theorem eT {w:World}{v v1:Value}(s:Sep w v v1){g:Nat}(hg:v1.ownBlock=some g):v.ownBlock=some g∨w.heap.size≤g:=by
 rcases s with s|⟨g',h1,h2⟩
 ·exact .inl (s▸hg)
 ·rw[h1]at hg;simp at hg;exact .inr af
theorem vX (w:World)(p j:Nat)(v:Value):Kp (fun k=>k=p) w (w.setCell ⟨p,j,none⟩ v):=Kp.setCell (S:=fun k=>k=p) (p:=⟨p,j,none⟩) ax (.inl rfl) v
theorem Wr.xZ {B p:Nat}{w w1:World}{pv fv v1:Value}{ps fs fs':List UInt8}(h:Wr B p w pv fv ps fs)(k1:Kp (Of fv) w w1)(s1:Sep w fv v1)(o1:dZ w1 v1 fs'):
 Wr B p (w1.setCell ⟨p,1,none⟩ v1) pv v1 ps fs'∧Kp (From B) w (w1.setCell ⟨p,1,none⟩ v1):=by
 have hlt:=h.lt;have hb1:w1.heap[p]?=some (.cells #[pv,fv] 156 (0,0)):=by rw[k1.block p hlt (fun e=>(h.bf p e).2 rfl)];exact h.blk
 have nb:∀g,v1.ownBlock=some g→B≤g∧g≠p∧pv.ownBlock≠some g:=fun g hg=>by
  rcases eT s1 hg with e|e
  ·exact⟨(h.bf g e).1,(h.bf g e).2,fun e'=>h.ne g e' e⟩
  ·exact⟨by have:=h.hB;omega,af,fun e'=>by have:=h.op.lt e';omega⟩
 refine⟨⟨h.hB,Ta hb1,?_,?_,h.bp,fun g hg=>⟨(nb g hg).1,(nb g hg).2.1⟩,fun g hg e=>(nb g e).2.2 hg⟩,?_⟩
 ·exact(h.op.kept k1 (fun g hg e=>h.ne g hg e)).kept (vX _ _ _ _) (fun g hg=>(h.bp g hg).2)
 ·exact o1.kept (vX _ _ _ _) (fun g hg=>(nb g hg).2.1)
 ·exact(k1.mono (fun k _ e=>(h.bf k e).1)).setCell (.inl h.hB) v1
theorem Wr.ae4 {B p:Nat}{w w1:World}{pv fv v1:Value}{ps fs ps':List UInt8}(h:Wr B p w pv fv ps fs)(k1:Kp (Of pv) w w1)(s1:Sep w pv v1)(o1:dZ w1 v1 ps'):
 Wr B p (w1.setCell ⟨p,0,none⟩ v1) v1 fv ps' fs∧Kp (From B) w (w1.setCell ⟨p,0,none⟩ v1):=by
 have hlt:=h.lt;have hb1:w1.heap[p]?=some (.cells #[pv,fv] 156 (0,0)):=by rw[k1.block p hlt (fun e=>(h.bp p e).2 rfl)];exact h.blk
 have nb:∀g,v1.ownBlock=some g→B≤g∧g≠p∧fv.ownBlock≠some g:=fun g hg=>by
  rcases eT s1 hg with e|e
  ·exact⟨(h.bp g e).1,(h.bp g e).2,h.ne g e⟩
  ·exact⟨by have:=h.hB;omega,af,fun e'=>by have:=h.of.lt e';omega⟩
 refine⟨⟨h.hB,Tc hb1,?_,?_,fun g hg=>⟨(nb g hg).1,(nb g hg).2.1⟩,h.bf,fun g hg=>(nb g hg).2.2⟩,?_⟩
 ·exact o1.kept (vX _ _ _ _) (fun g hg=>(nb g hg).2.1)
 ·exact(h.of.kept k1 (fun g hg e=>h.ne g e hg)).kept (vX _ _ _ _) (fun g hg=>(h.bf g hg).2)
 ·exact(k1.mono (fun k _ e=>(h.bp k e).1)).setCell (.inl h.hB) v1
theorem Wr.Bo {B p:Nat}{w w1:World}{pv fv:Value}{ps fs:List UInt8}(h:Wr B p w pv fv ps fs)(k1:Kp (Of fv) w w1):w1.cell? ⟨p,0,none⟩=some pv∧w1.cell? ⟨p,1,none⟩=some fv∧w1.frozen? ⟨p,0,none⟩=false∧w1.frozen? ⟨p,1,none⟩=false:=by
 have hb1:w1.heap[p]?=some (.cells #[pv,fv] 156 (0,0)):=by rw[k1.block p h.lt (fun e=>(h.bf p e).2 rfl)];exact h.blk
 simp[World.cell?,World.frozen?,hb1]
theorem Wr.aa3 {B p:Nat}{w w1:World}{pv fv:Value}{ps fs:List UInt8}(h:Wr B p w pv fv ps fs)(k1:Kp (Of pv) w w1):w1.cell? ⟨p,0,none⟩=some pv∧w1.cell? ⟨p,1,none⟩=some fv∧w1.frozen? ⟨p,0,none⟩=false∧w1.frozen? ⟨p,1,none⟩=false:=by
 have hb1:w1.heap[p]?=some (.cells #[pv,fv] 156 (0,0)):=by rw[k1.block p h.lt (fun e=>(h.bp p e).2 rfl)];exact h.blk
 simp[World.cell?,World.frozen?,hb1]
theorem Pk {w:World}{d:Value}{ds:List UInt8}(h:dZ w d ds):Src Tryz.prog 1 76 d ds.length (ds.map B) w:=by
 rcases h with⟨rfl,rfl⟩|⟨g,cap,rfl,_,_,_,h4,_⟩
 ·exact Src.ofNil (P:=Tryz.prog) w (e':=5) Tryz.underlying76 0
 ·exact Src.ofSlice (P:=Tryz.prog) w (e':=5) Tryz.underlying76 _ _ _ _ aj (fun j u hu=>by
   have hj:=(aL.1 hu).1;simp at hj;rw[Addr.add_lit,Nat.zero_add,h4 j hj];exact hu) (YH _)
theorem Oy (B0 p:Nat)(w:World)(pv fv d:Value)(ps fs ds:List UInt8)(h:Wr B0 p w pv fv ps fs)(hd:dZ w d ds)(hne:0<ds.length)(hdb:∀g,d.ownBlock=some g→g≠p∧pv.ownBlock≠some g∧fv.ownBlock≠some g)(hps:ps.length≤5000)(hfs:fs.length≤5000)(hds:ds.length≤200):
 Calls Tryz.prog 113 #[.pointer (some ⟨p,0,none⟩),d] w fun e w'=>e=.returned (.tuple #[])∧∃pv' zf,Wr B0 p w' pv' zf (ps++ds) (fs++Pl.dG ps.length++Pl.dG ds.length++Pl.oM ds)∧Kp (From B0) w w':=by
 have c0:=h.cell0;have c1:=h.cell1;have f0:=h.free 0;have f1:=h.free 1;obtain⟨pa,pc,rfl⟩:=h.op.shape;obtain⟨fa,fc,rfl⟩:=h.of.shape;obtain⟨da,dc,rfl⟩:=hd.shape;go_enter Tryz.func113,Tryz.ntmps113
 go_wp2_with fail
 go_region_with (go_at_call 97;go_must (refine(gY _ _ _ _ h.drew.of af af af).mono ?_);rintro e w1 ⟨v1,rfl,o1,k1,s1⟩;obtain⟨c10,c11,f10,f11⟩:=h.drew.Bo k1;obtain⟨a1,n1,oZ,rfl,hn1⟩:=o1.shape')
 all_goals
  obtain⟨h1,Pm⟩:=h.drew.xZ k1 s1 o1;have hd1:=(hd.ext (lJ w)).kept k1 (fun g hg e=>(hdb g hg).2.2 e)|>.kept (vX _ p 1 (.slice a1 n1 oZ)) (fun g hg=>(hdb g hg).1);clear c10 c11 f10 f11 c0 c1 f0 f1;generalize w1.setCell _ _=W1 at*;have c0:=h1.cell0;have c1:=h1.cell1;have hl1:=Pl.eB 2 ps.length (by simp;omega);have hl2:=Pl.eB 2 ds.length (by simp;omega);have hl3:=Pl.zK ds;simp only[Int.toNat_natCast]at h1 o1 hn1
  go_wp2_with fail
  refine(gY _ _ _ _ h1.of af af (by simp;omega)).mono ?_;rintro e w2 ⟨v2,rfl,o2,k2,s2⟩;obtain⟨m0,m1,m2,m3⟩:=h1.Bo k2;obtain⟨a2,n2,Pn,rfl,hn2⟩:=o2.shape';obtain⟨h2,IX⟩:=h1.xZ k2 s2 o2;have db1:∀g,(Value.slice da ds.length dc).ownBlock=some g→(Value.slice a1 n1 oZ).ownBlock≠some g:=fun g hg e=>by
   rcases eT s1 e with e'|e'
   ·exact(hdb g hg).2.2 e'
   ·have:=hd.lt hg;have:w.drew.heap.size=w.heap.size:=rfl;omega
  have hd2:=hd1.kept k2 (fun g hg e=>db1 g hg e)|>.kept (vX _ p 1 (.slice a2 n2 Pn)) (fun g hg=>(hdb g hg).1)
  go_wp2_with fail
  clear m0 m1 m2 m3 c0 c1;generalize w2.setCell _ _=W2 at*;refine(Kg _ _ _ _ ds h2.of hd2 hne (by simp;omega) af).mono ?_;simp only[Int.toNat_natCast]at*;rintro e w3 ⟨v3,rfl,o3,k3,s3⟩;obtain⟨m0,m1,m2,m3⟩:=h2.Bo k3;obtain⟨a3,n3,Po,rfl,Pp⟩:=o3.shape';obtain⟨h3,K3⟩:=h2.xZ k3 s3 o3;have db2:∀g,(Value.slice da ds.length dc).ownBlock=some g→(Value.slice a2 n2 Pn).ownBlock≠some g:=fun g hg e=>by
   rcases eT s2 e with e'|e'
   ·exact db1 g hg e'
   ·have:=hd1.lt hg;omega
  have hd3:=hd2.kept k3 (fun g hg e=>db2 g hg e)|>.kept (vX _ p 1 (.slice a3 n3 Po)) (fun g hg=>(hdb g hg).1)
  go_wp2_with (at_builtin;go_must (refine jq _ rfl _ _ 76 rfl _ _ rfl h3.op _ rfl _ ds (Pk hd3) af ?_);intro v4 w4 o4 k4 s4;obtain⟨q0,q1,q2,q3⟩:=h3.aa3 k4;obtain⟨a4,n4,YJ,rfl,hn4⟩:=o4.shape')
  go_end0
  obtain⟨h4,Fu⟩:=h3.ae4 k4 s4 o4;exact⟨rfl,_,_,h4,(Kp.cZ (lJ w)).trans ((Pm.trans IX).trans (K3.trans Fu))⟩
theorem Bp (l:List (List Int)):∀st:List UInt8×List UInt8,st.1.length+141*l.length≤5000→(∀x∈l,x.length≤20∧∀y∈x,0≤y∧y≤1099511627775)→(Pl.mH st l).1.length≤st.1.length+141*l.length∧(Pl.mH st l).2.length≤st.2.length+10*l.length:=by
 induction l with
 |nil=>intro st _ _;exact⟨aK _,aK _⟩
 |cons x r ih=>
  intro st h hx;have h0:=zO x (hx x aj).1 (hx x aj).2;have e1:(Pl.sZ st x).1.length=st.1.length+(Pl.page x).length:=by simp[Pl.sZ]
  have v1:=Pl.eB 2 st.1.length (by simp at h⊢;omega);have v2:=Pl.eB 2 (Pl.page x).length (by simp;omega);have e2:(Pl.sZ st x).2.length=st.2.length+(Pl.dG st.1.length).length+(Pl.dG (Pl.page x).length).length+4:=by simp only[Pl.sZ,aD,Pl.zK]
  have:=ih (Pl.sZ st x) (by simp only[aR]at h;omega) (fun y hy=>hx y (by simp[hy]));show(Pl.mH (Pl.sZ st x) r).1.length≤_∧(Pl.mH (Pl.sZ st x) r).2.length≤_;simp only[aR]at*;omega
theorem K4 (B0 p:Nat)(w:World)(pv fv gv:Value)(ps fs:List UInt8)(g:List (List Int))(h:Wr B0 p w pv fv ps fs)(hg:ql B0 w gv g)(hne:0<g.length)(hps:ps.length+141*g.length≤5000)(hfs:fs.length+10*g.length≤4000)(hgl:g.length≤4)(hx:∀x∈g,x.length≤20∧∀y∈x,0≤y∧y≤1099511627775):
 Calls Tryz.prog 98 #[.pointer (some ⟨p,0,none⟩),gv] w fun e w'=>e=.returned (.tuple #[])∧∃pv' zf,Wr B0 p w' pv' zf (Pl.rT (ps,fs) g).1 (Pl.rT (ps,fs) g).2∧Kp (From B0) w w':=by
 have c0:=h.cell0;have c1:=h.cell1;have f0:=h.free 0;have f1:=h.free 1;obtain⟨pa,pc,rfl⟩:=h.op.shape;obtain⟨fa,fc,rfl⟩:=h.of.shape;have hg0:=hg;obtain⟨ga,gc,rfl,hgc,hgm,hgo⟩:=hg.open;obtain⟨b,off,rfl,hb,hgo⟩:=hgo hne;obtain⟨ai,ci,hc,xY⟩:=hgo 0 hne;have hx0:=(hx (g.getD 0 []) (by rw[aC,ay hne];exact aJ hne)).1;have HG0:Hid (Pl.rT (ps,fs) g=Pl.mH (ps,fs++Pl.dG (g.getD 0 []).length) g):=rfl;generalize(g.getD 0 []).length=rows at*;simp only[Nat.add_zero]at hc;clear hgo;have hlr:=Pl.eB 0 rows (by simp;omega);go_enter Tryz.func98,Tryz.ntmps98
 go_wp2_with fail
 go_region_with (go_at_call 97;go_must (refine(gY _ _ _ _ h.drew.of af af af).mono ?_);rintro e w1 ⟨v1,rfl,o1,k1,s1⟩;obtain⟨c10,c11,f10,f11⟩:=h.drew.Bo k1;obtain⟨a1,n1,oZ,rfl,hn1⟩:=o1.shape')
 all_goals
  obtain⟨h1,Pm⟩:=h.drew.xZ k1 s1 o1;simp only[Int.toNat_natCast]at h1 o1;clear c10 c11 f10 f11 c0 c1 f0 f1 hc xY;generalize w1.setCell _ _=W1 at*;have kw:Kp (From B0) w W1:=(Kp.cZ (lJ w)).trans Pm;clear Pm k1 s1 o1;generalize hst:((ps,fs++Pl.dG rows):List UInt8×List UInt8)=st at*;have e1:ps=st.1:=by rw[←hst]
  have e2:fs++Pl.dG rows=st.2:=by rw[←hst]
  have l2:st.2.length≤fs.length+1:=by rw[←e2];simp;omega
  rw[e1,e2]at h1;have E1:=hide e1;clear e1 e2 hst
  go_wp2_with fail
  go_loopw [20] (fun i wr=>∃(k:Nat)(pv' zf:Value),k≤g.length∧i=.int .i64 k∧Wr B0 p wr pv' zf (Pl.mH st (g.take k)).1 (Pl.mH st (g.take k)).2∧Kp (From B0) w wr) (fun i _=>g.length-(intOf i).toNat)
  case atStart=>exact⟨0,_,_,aM _,rfl,h1,kw⟩
  case round=>
   obtain⟨k,pv',zf,hk,rfl,hW,zh⟩:=hrel;by_cases hkl:k<g.length
   ·obtain⟨ga',gc',he,_,_,hgo⟩:=(hg0.kept zh (fun i e=>e)).open;cases he;obtain⟨b',off',he,_,hgo⟩:=hgo hne;cases he;obtain⟨ai',ci',hc,xY⟩:=hgo k hkl;clear hgo;have Be:g.getD k []=g[k]:=by rw[aC,ay hkl];rfl
    rw[Be]at hc xY;have hxk:=hx g[k] (aJ hkl);have hpl:=zO g[k] hxk.1 hxk.2;have hal:=Bp (g.take k) st (by rw[←E1.out];simp;omega) (fun x hx'=>hx x (List.mem_of_mem_take hx'));rw[←E1.out,aU,Nat.min_eq_left af]at hal;have HT:Hid (Pl.mH st (g.take (k+1))=Pl.sZ (Pl.mH st (g.take k)) g[k]):=by
     show _=_;rw[aF hkl,Pl.Ff]
    clear Be;generalize g[k]=xs at*;generalize Pl.mH st (g.take k)=sk at*
    go_wp2_with fail
    refine(Ki B0 _ _ xs xY (by have:=hW.hB;have:=hW.lt;omega) hxk.2 hxk.1).mono ?_;rintro e w2 ⟨d,rfl,od,⟨gd,ed,fd⟩,x2⟩;have hW2:=hW.ext x2
    go_wp2_with fail
    refine(Oy B0 p _ _ _ d _ _ _ hW2 od af (fun g' hg'=>by
     rw[ed]at hg';simp at hg';subst hg';exact⟨by have:=hW.lt;omega,fun e=>by have:=hW.op.lt e;omega,fun e=>by have:=hW.of.lt e;omega⟩) af af af).mono ?_
    rintro e w3 ⟨rfl,Pq,fv3,h3,k3⟩
    go_wp2_with fail
    go_roundw
    case rel=>exact⟨k+1,Pq,fv3,af,by go_num,by rw[HT.out];exact h3,(zh.trans (Kp.cZ x2)).trans k3⟩
    case measure=>simp[intOf];omega
   ·go_wp2_with fail
    go_end0
    obtain rfl:k=g.length:=af;rw[aX]at hW;refine⟨rfl,pv',zf,?_,zh⟩;rw[HG0.out];exact hW
theorem zR (w:World)(s:ByteArray):Src Tryz.prog 1 9 (.string s) s.size ((bytesOf s).map B) w:=Src.ofString (P:=Tryz.prog) w Tryz.underlying9 s
theorem Az (l:List (List UInt8))(h:∀s∈l,s.length≤8):(Pl.nameBytes l).length≤9*l.length:=by
 induction l with
 |nil=>simp[Pl.nameBytes]
 |cons s r ih=>
  have h1:=h s aj;have h2:=Pl.eB 0 s.length (by simp;omega);have h3:=ih (fun x hx=>h x (by simp[hx]));simp only[Pl.nameBytes,List.flatMap_cons,aD,aR]at*;omega
theorem K5 (B0 p:Nat)(w:World)(pv fv nv:Value)(ps fs:List UInt8)(ss:List ByteArray)(h:Wr B0 p w pv fv ps fs)(hr:h_ B0 w nv ss)(hfs:fs.length≤100)(hl:ss.length≤4)(hx:∀s∈ss,s.size≤8):
 Calls Tryz.prog 96 #[.pointer (some ⟨p,0,none⟩),nv] w fun e w'=>e=.returned (.tuple #[])∧∃pv' zf,Wr B0 p w' pv' zf ps (fs++Pl.dG ss.length++Pl.nameBytes (ss.map bytesOf))∧Kp (From B0) w w':=by
 have c0:=h.cell0;have c1:=h.cell1;have f0:=h.free 0;have f1:=h.free 1;obtain⟨pa,np,pc,rfl,hnp⟩:=h.op.shape';obtain⟨fa,nf,fc,rfl,hnf⟩:=h.of.shape';have hr0:=hr;obtain⟨na,nc,rfl,hnc,hnm,-⟩:=h_.open hr;have hl1:=Pl.eB 0 ss.length (by simp;omega);go_enter Tryz.func96,Tryz.ntmps96
 go_wp2_with fail
 refine(gY _ _ _ _ h.of af af af).mono ?_;rintro e w1 ⟨v1,rfl,o1,k1,s1⟩;simp only[Int.toNat_natCast]at o1;obtain⟨m0,m1,m2,m3⟩:=h.Bo k1;obtain⟨a1,n1,oZ,rfl,hn1⟩:=o1.shape';obtain⟨h1,Pm⟩:=h.xZ k1 s1 o1
 go_wp2_with fail
 clear m0 m1 m2 m3 c0 c1 f0 f1;generalize w1.setCell _ _=W1 at*;clear k1 s1 o1;generalize hF:fs++Pl.dG ss.length=F1 at*;have lF:F1.length≤101:=by rw[←hF];simp;omega
 have HF:=hide hF;clear hF;go_loopw [18] (fun i wr=>∃(k:Nat)(zf:Value),k≤ss.length∧i=.int .i64 k∧Wr B0 p wr (.slice pa np pc) zf ps (F1++Pl.nameBytes ((ss.take k).map bytesOf))∧Kp (From B0) w wr) (fun i _=>ss.length-(intOf i).toNat)
 case atStart=>exact⟨0,_,aM _,rfl,by simpa[Pl.nameBytes]using h1,Pm⟩
 case round=>
  obtain⟨k,zf,hk,rfl,hW,zh⟩:=hrel;by_cases hkl:k<ss.length
  ·obtain⟨na',nc',he,_,_,hgo⟩:=h_.open (hr0.kept zh (fun i e=>e));cases he;obtain⟨b,off,rfl,hb,hgo⟩:=hgo af;have hc:=hgo k hkl;clear hgo;rw[show ss.getD k ByteArray.empty=ss[k] by rw[aC,ay hkl];rfl]at hc;have hxk:=hx ss[k] (aJ hkl);have hnl:=Az ((ss.take k).map bytesOf) (fun s hs=>by
    obtain⟨y,hy,rfl⟩:=List.mem_map.1 hs;rw[gX];exact hx y (List.mem_of_mem_take hy))
   simp only[aQ,aU]at hnl;have HT:Hid (Pl.nameBytes ((ss.take (k+1)).map bytesOf)=Pl.nameBytes ((ss.take k).map bytesOf)++(Pl.dG (bytesOf ss[k]).length++bytesOf ss[k])):=by
    show _=_;rw[aF hkl,a_,List.map_singleton,Pl.y9]
   rw[gX]at HT;generalize ss[k]=s at*;generalize Pl.nameBytes ((ss.take k).map bytesOf)=nb at*;have hl2:=Pl.eB 0 s.size (by simp;omega);have hl3:=gX s;have HL3:=hide hl3;clear hl3;have c0:=hW.cell0;have c1:=hW.cell1;have f1:=hW.free 1;obtain⟨fa',nf',fc',rfl,amD⟩:=hW.of.shape'
   go_wp2_with fail
   refine(gY _ _ _ _ hW.of af af (by simp;omega)).mono ?_;rintro e w2 ⟨v2,rfl,o2,k2,s2⟩;simp only[Int.toNat_natCast]at o2;obtain⟨m0,m1,m2,m3⟩:=hW.Bo k2;obtain⟨a2,n2,Pn,rfl,hn2⟩:=o2.shape';obtain⟨h2,IX⟩:=hW.xZ k2 s2 o2;clear c0 c1 f1
   go_wp2_with (at_builtin;go_must (refine jq _ rfl _ _ 9 rfl _ _ rfl h2.of _ rfl _ (bytesOf s) (zR _ s) (by simp;omega) ?_);intro v4 w4 o4 k4 s4;obtain⟨q0,q1,q2,q3⟩:=h2.Bo k4;obtain⟨a4,n4,YJ,rfl,hn4⟩:=o4.shape')
   obtain⟨h4,Fu⟩:=h2.xZ k4 s4 o4
   go_roundw
   case rel=>exact⟨k+1,_,af,by go_num,by rw[HT.out];simpa using h4,(zh.trans IX).trans Fu⟩
   case measure=>simp[intOf];omega
  ·go_wp2_with fail
   go_end0
   obtain rfl:k=ss.length:=af;rw[aX]at hW;exact⟨rfl,_,zf,by rw[HF.out];exact hW,zh⟩
theorem Kj {ops:Array Oper}{o:Oper}{a:Act}{w:World}{K:Act→World→Prop}{Q:Exit→Act→World→Prop}{E:Prop}
 (hg:o.guard=none)(s x:Operand)(tx:TypeId)(ho:o.op=.call {callee:=.builtin .append,args:=#[s,x],argTypes:=#[76,tx]})
 (v:Value)(bs:List UInt8)(hv:a.eval s=v)(hown:dZ w v bs)(xv:Value)(hx:a.eval x=xv)(n:Nat)(news:List UInt8)(hs:Src Tryz.prog 1 tx xv n (news.map B) w)(hb:bs.length+n≤1000000)
 (hK:∀v' w',dZ w' v' (bs++news)→Kp (Of v) w w'→Sep w v v'→K (a.put o.dst v') w'):
 if Region.wanted o (yielded ops a.tmps)=true then Oper.wp Tryz.prog o a w K Q else E:=by
 have hw:Region.wanted o (yielded ops a.tmps)=true:=by simp[Region.wanted,hg]
 rw[if_pos hw];obtain⟨v',w',hrun,r1,r2,r3⟩:=A9 w v bs hown tx o.type xv n news hs hb;unfold Oper.wp;simp[execOp,ho,resolve,invoke,builtin,hv,hx,hrun,Result.andThen];exact hK v' w' r1 r2 r3
theorem fold_push (ns:List UInt8):∀s:ByteArray,List.foldl (fun(r:ByteArray)(n:Int)=>r.push (UInt8.ofNat n.toNat)) s (ns.map fun b=>(b.toNat:Int))=⟨s.data++ns.toArray⟩:=by
 induction ns with
 |nil=>intro s;simp
 |cons b r ih=>
  intro s;simp only[List.map_cons,List.foldl_cons];rw[ih];simp[ByteArray.push]
theorem vY (w:World)(v:Value)(bs:List UInt8)(h:dZ w v bs)(hne:0<bs.length):(convert 76 9 v).run Tryz.prog w=.ok (.string ⟨bs.toArray⟩) w:=by
 rcases h with⟨rfl,rfl⟩|⟨g,cap,rfl,h1,h2,h3,h4,h5⟩
 ·simp at hne
 ·rw[run_convert_bytes_string w _ _ 5 _ _ _ Tryz.underlying76 Tryz.underlying5 Tryz.underlying9];have hl:(loadCells ⟨g,0,none⟩ bs.length).run Tryz.prog w=.ok ((bs.map fun b=>(b.toNat:Int)).map (Value.int .u8)).toArray w:=by
   have:=run_firstCells_some (P:=Tryz.prog) w 1 bs.length ⟨g,0,none⟩ bs.length cap (bs.map B) aj (fun j u hu=>by
    have hj:=(aL.1 hu).1;simp at hj;rw[Addr.add_lit,Nat.zero_add,h4 j hj];exact hu)
   simp only[Builtin.firstCells,Nat.mul_one]at this;rw[this];simp[B,Function.comp_def]
  rw[run_bytesToString w _ _ _ _ hl,fold_push];simp
theorem Qv (B0 p:Nat)(w:World)(pv fv:Value)(ps fs:List UInt8)(h:Wr B0 p w pv fv ps fs)(hps:ps.length≤5000)(hfs:fs.length≤4000):
 Calls Tryz.prog 99 #[.pointer (some ⟨p,0,none⟩)] w fun e w'=>e=.returned (.tuple #[.string ⟨(Pl.sealed (ps,fs)).1.toArray⟩,.int .i64 (Pl.sealed (ps,fs)).2])∧Kp (From B0) w w':=by
 have c0:=h.cell0;have c1:=h.cell1;obtain⟨pa,np,pc,rfl,hnp⟩:=h.op.shape';obtain⟨fa,nf,fc,rfl,hnf⟩:=h.of.shape';go_enter Tryz.func99,Tryz.ntmps99
 go_wp2_with fail
 go_region_law (refine Kj rfl _ _ 76 rfl _ _ rfl h.drew.op _ rfl _ fs (Pk h.drew.of) af ?_;intro v1 w1 o1 k1 s1)
 all_goals
  obtain⟨q0,q1,q2,q3⟩:=h.drew.aa3 k1;have kw1:Kp (From B0) w w1:=(Kp.cZ (lJ w)).trans (k1.mono (fun k _ e=>(h.bp k e).1));have nb1:∀g,v1.ownBlock=some g→B0≤g:=fun g hg=>by
   rcases eT s1 hg with e|e
   ·exact(h.bp g e).1
   ·have:=h.hB;have:=h.lt;have:w.drew.heap.size=w.heap.size:=rfl;omega
  have aid:nf<65536:=by rw[hnf.out];omega
  obtain⟨a1,n1,oZ,rfl,hn1⟩:=o1.shape'
  go_wp2_with fail
  refine(Hq _ _ _ nf o1 aid (by simp;omega)).mono ?_;rintro e w2 ⟨v2,rfl,o2,k2,s2⟩;have kw2:Kp (From B0) w w2:=kw1.trans (k2.mono (fun k _ e=>nb1 k e));have IY:∀g,v2.ownBlock=some g→B0≤g:=fun g hg=>by
   rcases eT s2 hg with e|e
   ·exact nb1 g e
   ·have:=kw1.size;have:=h.hB;have:=h.lt;omega
  go_wp2_with (at_builtin;go_must (refine jq _ rfl _ _ 9 rfl _ _ rfl o2 _ rfl _ Pl.mark (zR _ _) (by simp[ByteArray.size];omega) ?_);intro v3 w3 o3 k3 s3;obtain⟨a3,n3,Po,rfl,Pp⟩:=o3.shape';have amv:=vY _ _ _ o3 (by simp;omega))
  all_goals
   have kw3:Kp (From B0) w w3:=kw2.trans (k3.mono (fun k _ e=>IY k e));have Td:ps++fs++[UInt8.ofNat (nf/256),UInt8.ofNat (nf%256)]++Pl.mark=Pl.whole (ps,fs):=by rw[hnf.out];rfl
   have hn:=Pp.out;rw[Td]at hn
  ·rw[Pl.IU _ af]
   go_ret2
   exact⟨rfl,kw3⟩
  ·rw[Pl.IQ _ af,←Td]
   go_ret2
   exact⟨aj,kw3⟩
section
variable{P:Program}{ops:Array Oper}{Q:Exit→Act→World→Prop}{md:Region.Mode}{S:World→Prop}
def Late (P:Program)(md:Region.Mode)(ops:Array Oper)(Q:Exit→Act→World→Prop)(S:World→Prop)(n:Nat):Nat→Array Bool→Act→World→Prop
 |0,listed,a,w=>Region.ready md ops listed=[]∧Q .normal a w
 |f+1,listed,a,w=>(Region.ready md ops listed=[]→Q .normal a w)∧
  ∀i∈Region.ready md ops listed,wpOp P ops Q i (fun a' w'=>(i≠n→S w')∧Late P md ops Q S n f (listed.setIfInBounds i true) a' w') a w
theorem Late.any {n:Nat}:∀(f:Nat)(listed:Array Bool)(a:Act)(w:World),Late P md ops Q S n f listed a w→wpAny P md ops Q f listed a w
 |0,_,_,_,h=>h
 |f+1,_,_,_,h=>⟨h.1,fun i hi=>wpOp_mono (fun _ _ h'=>Late.any f _ _ _ h'.2) (h.2 i hi)⟩
theorem Fv {n i:Nat}{listed:Array Bool}(hw:Region.waitsFor md ops n i=true)(hu:listed.getD i true=false):n∉Region.ready md ops listed:=by
 intro hr;obtain⟨oj,hj,e,he,hb,hon⟩:=Region.waitsFor_spec hw;obtain⟨_,o',ho',hall⟩:=mem_ready.1 hr;rw[hj]at ho';cases ho';have h1:=hall e he hb;rw[hon]at h1;rw[getD_both hu]at h1;cases h1
def chained (md:Region.Mode)(ops:Array Oper):Nat→List Nat→Bool
 |_,[]=>true
 |i,c::r=>Region.waitsFor md ops c i&&chained md ops c r
theorem qo {listed:Array Bool}:∀(r:List Nat)(i:Nat),chained md ops i r=true→listed.getD i true=false→(∀x∈r,listed.getD x true=false)→∀x∈r,x∉Region.ready md ops listed
 |[],_,_,_,_,x,hx=>by simp at hx
 |c::r,i,h,hi,hr,x,hx=>by
  simp only[chained,Bool.and_eq_true]at h;rcases List.mem_cons.1 hx with rfl|hx
  ·exact Fv h.1 hi
  ·exact qo r c h.2 (hr c aj) (fun y hy=>hr y (by simp[hy])) x hx
theorem Late.first {n i:Nat}{oi:Oper}{v:Value}(r:List Nat)(hi:ops[i]?=some oi)(hsel:∀(j:Nat)(o:Oper)cs b,ops[j]?=some o→o.op≠.select cs b)(hw:chained md ops i r=true)(hn:n∈r)(hni:i≠n)
 (hQ:∀c a w,Q (.panic c) (a.put oi.dst v) w→Q (.panic c) a w):∀(f:Nat)(listed:Array Bool)(a:Act)(w:World),
  (∀x∈r,listed.getD x true=false)→
  (∀j oj,ops[j]?=some oj→j≠i→listed.getD j true=false→(∀e∈oj.after,Region.binds md e=true→e.on≠i)→oi.apart ops oj=true)→
  i∈Region.ready md ops listed→YieldsIf P ops S oi v a→S w→
  Late P md ops Q S n f (listed.setIfInBounds i true) (a.put oi.dst v) w→Late P md ops Q S n (f+1) listed a w:=by
 intro f;induction f with
 |zero=>
  intro listed a w _ _ hr hy hS H;refine⟨fun h=>absurd hr (by rw[h];simp),fun j hj=>?_⟩;by_cases hji:j=i
  ·subst hji;exact hy.wpOp hi hS ⟨fun _=>hS,H⟩
  ·have hm:=ready_mono hj hji;rw[H.1]at hm;cases hm
 |succ f ih=>
  intro listed a w hch hfree hr hy hS H;refine⟨fun h=>absurd hr (by rw[h];simp),fun j hj=>?_⟩;by_cases hji:j=i
  ·subst hji;exact hy.wpOp hi hS ⟨fun _=>hS,H⟩
  have hiu:listed.getD i true=false:=(mem_ready.1 hr).1;have hjr:∀x∈r,j≠x:=fun x hx e=>qo r i hw hiu hch x hx (e▸hj)
  have hjn:j≠n:=hjr n hn;have h1:=H.2 j (ready_mono hj hji);obtain⟨Dj,oj,hoj,hall⟩:=mem_ready.1 hj;have hnot:∀e∈oj.after,Region.binds md e=true→e.on≠i:=fun e he hb heq=>by
   have h2:=hall e he hb;rw[heq,getD_both hiu]at h2;cases h2
  have h2:=wpOp_putIf hoj (hfree j oj hoj hji Dj hnot) (fun cs b=>hsel i oi cs b hi) (fun cs b=>hsel j oj cs b hoj) hQ hy h1;refine wpOp_mono (fun a' w' h3=>⟨h3.2.1,ih (listed.setIfInBounds j true) a' w' (fun x hx=>by rw[getD_set_ne true (hjr x hx)];exact hch x hx) (fun k ok hk hki hun hno=>hfree k ok hk hki ?_ hno) (ready_mono hr (Ne.symm hji)) h3.1 (h3.2.1 hjn) ?_⟩) h2
  ·by_cases hjk:j=k
   ·subst hjk;exact Dj
   ·rwa[getD_set_ne true hjk]at hun
  ·rw[Array.setIfInBounds_comm _ _ hji];exact h3.2.2
theorem oH {i:Nat}{o:Oper}{ro:List Oper}(h:ops.toList.drop i=o::ro):ops[i]?=some o:=by
 rw[←Array.getElem?_toList,←List.head?_drop,h];rfl
theorem lX :(∀(α:Type)(l:List α)(i:Nat)(a:α),l.toArray.setIfInBounds i a=(l.set i a).toArray)∧(∀(α:Type)(x:α)(xs:List α)(a:α),(x::xs).set 0 a=a::xs)∧(∀(α:Type)(x:α)(xs:List α)(n:Nat)(a:α),(x::xs).set (n+1) a=x::xs.set n a)
 ∧(∀(a:Act)(d:Nat)(v:Value),a.put (some d) v={a with tmps:=a.tmps.setIfInBounds d v})∧∀(a:Act)(v:Value),a.put none v=a:=
 ⟨fun _ _ _ _=>List.setIfInBounds_toArray ..,fun _ _ _ _=>rfl,fun _ _ _ _ _=>rfl,fun _ _ _=>rfl,fun _ _=>rfl⟩
theorem G {p:Prop}(h:p:=by go_simp;first|done|with_reducible rfl):p:=h
theorem Late.t {n:Nat}{oi:Oper}{ro:List Oper}{v:Value}{f:Nat}{listed l':Array Bool}{a a':Act}{w:World}(i:Nat)(r:List Nat)(hi:ops.toList.drop i=oi::ro)(hS:S w)(h:Late P md ops Q S n f l' a' w)
 (hy:∀u,S u→(execOp a.eval oi).run P u=.ok (.value v) u:=by intro _ _;go_simp;first|done|with_reducible rfl)(hl':listed.setIfInBounds i true=l':=by(try simp only[lX]);exact rfl)(ha':a.put oi.dst v=a':=by(try simp only[lX]);exact rfl)
 (hs:Region.noSelect ops=true:=by kernel_rfl)(hw:chained md ops i r=true:=by kernel_rfl)(hn:n∈r:=by decide)(hni:i≠n:=by decide)(hl:r.all (fun x=>listed.getD x true==false)=true:=by kernel_rfl)(hf:Region.free md ops listed i=true:=by kernel_rfl)(hr:(Region.ready md ops listed).contains i=true:=by kernel_rfl)
 (hQ:∀v c a w,Q (.panic c) (a.put oi.dst v) w→Q (.panic c) a w:=by exact fun _ _ _ _ h=>h)(hg:Region.wanted oi (yielded ops a.tmps)=true:=by rfl):Late P md ops Q S n (f+1) listed a w:=by
 subst hl' ha';exact Late.first r (oH hi) (Region.noSelect_spec hs) hw hn hni (hQ v) f listed a w (fun x hx=>by have:=List.all_eq_true.1 hl x hx;simpa using this) (Region.free_spec (oH hi) hf) (by simpa using hr) (.inl ⟨hg,hy⟩) hS h
theorem Late.h {n:Nat}{oi:Oper}{ro:List Oper}{v:Value}{f:Nat}{listed l':Array Bool}{a a':Act}{w:World}{T:World→Prop}(HS:Hid (∀u,S u→T u))(i:Nat)(r:List Nat)(hi:ops.toList.drop i=oi::ro)(hS:S w)(h:Late P md ops Q S n f l' a' w)
 (hy:∀u,T u→(execOp a.eval oi).run P u=.ok (.value v) u:=by intro _ _;go_simp;first|done|with_reducible rfl)(hl':listed.setIfInBounds i true=l':=by(try simp only[lX]);exact rfl)(ha':a.put oi.dst v=a':=by(try simp only[lX]);exact rfl)
 (hs:Region.noSelect ops=true:=by kernel_rfl)(hw:chained md ops i r=true:=by kernel_rfl)(hn:n∈r:=by decide)(hni:i≠n:=by decide)(hl:r.all (fun x=>listed.getD x true==false)=true:=by kernel_rfl)(hf:Region.free md ops listed i=true:=by kernel_rfl)(hr:(Region.ready md ops listed).contains i=true:=by kernel_rfl)
 (hQ:∀v c a w,Q (.panic c) (a.put oi.dst v) w→Q (.panic c) a w:=by exact fun _ _ _ _ h=>h)(hg:Region.wanted oi (yielded ops a.tmps)=true:=by rfl):Late P md ops Q S n (f+1) listed a w:=
 Late.t i r hi hS h (fun u hu=>hy u (bH HS u hu)) hl' ha' hs hw hn hni hl hf hr hQ hg
theorem Late.s {n:Nat}{oi:Oper}{ro:List Oper}{f:Nat}{listed l':Array Bool}{a a':Act}{w:World}(i:Nat)(r:List Nat)(hi:ops.toList.drop i=oi::ro)(hS:S w)(h:Late P md ops Q S n f l' a' w)
 (hl':listed.setIfInBounds i true=l':=by(try simp only[lX]);exact rfl)(ha':a.put oi.dst undef=a':=by(try simp only[lX]);exact rfl)
 (hs:Region.noSelect ops=true:=by kernel_rfl)(hw:chained md ops i r=true:=by kernel_rfl)(hn:n∈r:=by decide)(hni:i≠n:=by decide)(hl:r.all (fun x=>listed.getD x true==false)=true:=by kernel_rfl)(hf:Region.free md ops listed i=true:=by kernel_rfl)(hr:(Region.ready md ops listed).contains i=true:=by kernel_rfl)
 (hQ:∀v c a w,Q (.panic c) (a.put oi.dst v) w→Q (.panic c) a w:=by exact fun _ _ _ _ h=>h)(hg:Region.wanted oi (yielded ops a.tmps)=false:=by rfl):Late P md ops Q S n (f+1) listed a w:=by
 subst hl' ha';exact Late.first r (oH hi) (Region.noSelect_spec hs) hw hn hni (hQ _) f listed a w (fun x hx=>by have:=List.all_eq_true.1 hl x hx;simpa using this) (Region.free_spec (oH hi) hf) (by simpa using hr) (.inr ⟨hg,rfl⟩) hS h
theorem Late.one {n i:Nat}{o:Oper}{f:Nat}{listed:Array Bool}{a:Act}{w:World}(hr:Region.ready md ops listed=[i])(ho:ops[i]?=some o)
 (h:∀K:Act→World→Prop,(∀a' w',(i≠n→S w')→Late P md ops Q S n f (listed.setIfInBounds i true) a' w'→K a' w')→if Region.wanted o (yielded ops a.tmps)=true then Oper.wp P o a w K Q else K (a.put o.dst undef) w):
 Late P md ops Q S n (f+1) listed a w:=by
 refine⟨(fun h0=>by rw[hr]at h0;cases h0),fun j hj=>?_⟩;rw[hr]at hj;obtain rfl:j=i:=by simpa using hj
 have h1:=h (fun a' w'=>(j≠n→S w')∧Late P md ops Q S n f (listed.setIfInBounds j true) a' w') (fun a' w' a b=>⟨a,b⟩);unfold wpOp;simp only[ho];by_cases hwn:Region.wanted o (yielded ops a.tmps)=true
 ·simp only[hwn,if_true]at h1⊢;exact .inl h1
 ·simp only[hwn]at h1⊢;exact h1
theorem Late.o {n:Nat}{o:Oper}{ro:List Oper}{f:Nat}{listed:Array Bool}{a:Act}{w:World}(i:Nat)(ho:ops.toList.drop i=o::ro)
 (h:∀K:Act→World→Prop,(∀a' w',(i≠n→S w')→Late P md ops Q S n f (listed.setIfInBounds i true) a' w'→K a' w')→if Region.wanted o (yielded ops a.tmps)=true then Oper.wp P o a w K Q else K (a.put o.dst undef) w)(hr:Region.ready md ops listed=[i]:=by kernel_rfl):
 Late P md ops Q S n (f+1) listed a w:=Late.one hr (oH ho) h
theorem Late.done {n:Nat}{listed:Array Bool}{a:Act}{w:World}(hr:Region.ready md ops listed=[])(h:Q .normal a w):∀f,Late P md ops Q S n f listed a w
 |0=>⟨hr,h⟩
 |_+1=>⟨fun _=>h,by rw[hr];simp⟩
theorem bZ {id n:Nat}{a:Act}{w:World}(S:World→Prop)(hm:P.follows .mixedOrders=true)(h:Late P .any ops Q S n ops.size (Array.replicate ops.size false) a w.drew):(Code.region id ops true).wp P Q a w:=
 wp_region_any hm (Late.any _ _ _ _ h)
end
theorem d_ {P:Program}{ops:Array Oper}{o:Oper}{a:Act}{w:World}{K:Act→World→Prop}{Q:Exit→Act→World→Prop}{E:Prop}
 (hg:o.guard=none)(s x:Operand)(t tx:TypeId)(ho:o.op=.call {callee:=.builtin .append,args:=#[s,x],argTypes:=#[t,tx]})(e:TypeId)(z:Value)(size bytes:Nat)(ht:P.underlying t=some (.slice e))(hinfo:(P.info? e).map (fun i=>(i.zero,i.size,i.bytes))=some (some z,size,bytes))(hzc:z.cells.size=size)
 (v:Value)(n:Nat)(cs:List Value)(hv:a.eval s=v)(hown:Own w size v n cs)(xv:Value)(hx:a.eval x=xv)(m:Nat)(news:List Value)(hs:Src P size tx xv m news w)(hb:(n+m)*bytes≤140737488355328)(hm:n+m≤1000000000000000)
 (hK:∀v' w',Own w' size v' (n+m) (cs++news)→Kp (Of v) w w'→Sep w v v'→K (a.put o.dst v') w'):
 if Region.wanted o (yielded ops a.tmps)=true then Oper.wp P o a w K Q else E:=by
 have hw:Region.wanted o (yielded ops a.tmps)=true:=by simp[Region.wanted,hg]
 rw[if_pos hw];obtain⟨v',w',hrun,r1,r2,r3⟩:=vV P w t e tx o.type z size bytes ht hinfo hzc v n cs hown xv m news hs hb hm;unfold Oper.wp;simp[execOp,ho,resolve,invoke,builtin,hv,hx,hrun,Result.andThen];exact hK v' w' r1 r2 r3
theorem WL {P:Program}(w:World)(t e:TypeId)(ht:P.underlying t=some (.slice e))(cs:List Value)(h1:∀u∈cs,u.oneCell'=true):Src P cs.length t (.slice (some ⟨w.heap.size,0,none⟩) 1 1) 1 cs (w.alloc (.cells cs.toArray e)):=
 Src.ofSlice (P:=P) _ (e':=e) ht _ _ _ _ aj (fun j u hu=>by
  rw[Addr.add_lit,Nat.zero_add,World.cell?_alloc_new];simpa using hu) h1
theorem uJ {P:Program}(w:World)(t e:TypeId)(ht:P.underlying t=some (.slice e))(arr:Array Value)(cs:List Value)(ha:arr=cs.toArray)(h1:∀u∈cs,u.oneCell'=true):Src P cs.length t (.slice (some ⟨w.heap.size,0,none⟩) 1 1) 1 cs (w.alloc (.cells arr e)):=by
 subst ha;exact WL w t e ht cs h1
theorem uK {P:Program}(w:World)(t e:TypeId)(ht:P.underlying t=some (.slice e))(arr:Array Value)(cs:List Value)(ha:arr=cs.toArray)(h1:∀u∈cs,u.oneCell'=true):Src P cs.length t (.slice (some ⟨w.heap.size,0,none⟩) 1 1) 1 cs (w.alloc (.cells arr e)).drew:=by
 subst ha;exact Src.ofSlice (P:=P) _ (e':=e) ht _ _ _ _ aj (fun j u hu=>by
  rw[Addr.add_lit,Nat.zero_add];show(w.alloc (.cells cs.toArray e)).cell? _=_;rw[World.cell?_alloc_new];simpa using hu) h1
def Ev :Value:=.agg #[.int .i64 0,.int .i64 0,.int .i64 0,.nilFunc,.nilFunc]
theorem CV :(Tryz.prog.info? 169).map (fun i=>(i.zero,i.size,i.bytes))=some (some Ev,5,40):=by kernel_rfl
theorem Pt (col:bU)(w:World)(P p:Nat)(m:Pl.Sc)(x:Pl.Part)(ps qs:List Nat)(nv av wv hv gv dv xv:Value)(h:fA col w P m ps qs nv av wv hv gv)(hp:jU col w P p x dv xv)(hn:p∉ps++qs)(hid:m.bW≤1000000000000)(hal:m.asked.length≤1000)(hpl:x.place+x.length≤1000000)(hdl:x.data.length≤x.length):
 Calls Tryz.prog 102 #[PtrTo p 0] w fun e w'=>e=.returned (.tuple #[])∧∃bV eZ,fA bV w' P (Pl.ask m x) (ps++[p]) qs nv eZ wv hv gv∧cu col w w' bV:=by
 have c0:=hp.blk.cell 0;have c1:=hp.blk.cell 1;have c2:=hp.blk.cell 2;have c3:=hp.blk.cell 3;have s9:=h.blk.cell 9;have s10:=h.blk.cell 10;have f9:=h.blk.free 9;have f10:=h.blk.free 10;simp only[kZ,dw,I,au]at c0 c1 c2 c3 s9 s10;obtain⟨da,dc,rfl⟩:=hp.data.shape;obtain⟨aa,ac,rfl,_⟩:=h.inn.asked.shape;have hm1:Inner col w P {m with bW:=m.bW+1} ps qs nv (.slice aa m.asked.length ac) wv hv gv:=⟨h.inn.cB,h.inn.top,h.inn.names,h.inn.asked,h.inn.jd,h.inn.eY,h.inn.waiting,h.inn.jW,h.inn.gI,h.inn.nodup,h.inn.ahead,h.inn.groups⟩
 have h1:=h.cellP 9 (.int .i64 ((m.bW:Int)+1)) (by simp[dw,I,lT]) hm1;have k1:=bI w P 9 (.int .i64 ((m.bW:Int)+1));have YK:p≠P:=fun e=>by have:=hp.cB;rw[e,h.inn.cB]at this;simp at this
 have hp1:=hp.go (bV:=col) k1 (fun e=>YK e) (fun i hi=>by subst hi;rw[h.inn.cB];simp) (fun i hi=>by subst hi;rw[h.inn.cB];simp) (fun _ _=>rfl);have K6:#[Value.int .i64 ((m.bW:Int)+1),Value.int .i64 ((x.place:Int)+(x.data.length:Int)),Value.int .i64 ((x.length:Int)-(x.data.length:Int)),fq 118 (PtrTo p 0),fq 119 (PtrTo p 0)]=(gN p (m.bW+1,x)).toArray:=by
  simp[gN,I];omega
 have hone:∀u∈gN p (m.bW+1,x),u.oneCell'=true:=by
  intro u hu;simp[gN]at hu;rcases hu with rfl|rfl|rfl|rfl|rfl<;>rfl
 go_enter Tryz.func102,Tryz.ntmps102
 go_wp2_with fail
 clear c0 c1 c2 c3 s9 s10 f9 f10 hm1;generalize w.setCell _ _=W1 at*;have hA:∀u,Ext W1 u→Own u 5 (.slice aa m.asked.length ac) m.asked.length (gu ps m.asked):=fun u hu=>h1.inn.asked.ext hu
 have c0:=hp1.blk.cell 0;have c1:=hp1.blk.cell 1;have c2:=hp1.blk.cell 2;have c3:=hp1.blk.cell 3;have s9:=h1.blk.cell 9;have s10:=h1.blk.cell 10;have f10:=h1.blk.free 10;simp only[kZ,dw,I,au,Int.natCast_add,Int.natCast_one]at c0 c1 c2 c3 s9 s10;have HA:=hide hA;clear hA;have ja:∀k,(Value.slice aa m.asked.length ac).ownBlock=some k→k≠p∧k≠P:=fun k hk=>by
  have e:=h1.inn.jd k hk;exact⟨fun e'=>by rw[e',hp1.cB]at e;simp at e,fun e'=>by rw[e',h1.inn.cB]at e;simp at e⟩
 have hS:∀u,Kp (fun k=>k≠p∧k≠P) W1 u→u.cell? ⟨p,0,none⟩=some (PtrTo P 7)∧u.cell? ⟨p,1,none⟩=some (.int .i64 (x.place:Int))∧u.cell? ⟨p,2,none⟩=some (.int .i64 (x.length:Int))∧u.cell? ⟨p,3,none⟩=some (.slice da x.data.length dc)∧u.cell? ⟨P,9,none⟩=some (.int .i64 ((m.bW:Int)+1))∧u.cell? ⟨P,10,none⟩=some (.slice aa m.asked.length ac):=fun u hu=>
  ⟨hu.cell c0 aj,hu.cell c1 aj,hu.cell c2 aj,hu.cell c3 aj,hu.cell s9 aj,hu.cell s10 aj⟩
 have HS:=hide hS;have HV:=hide ja;have HR:=hide K6;have HO:=hide hone;clear hS ja K6 hone;have e1:IntKind.i64.wrap ((x.place:Int)+(x.data.length:Int))=(x.place:Int)+(x.data.length:Int):=by simp[IntKind.wrap,IntKind.bits,IntKind.signed];omega
 have e2:IntKind.i64.wrap ((x.length:Int)-(x.data.length:Int))=(x.length:Int)-(x.data.length:Int):=by simp[IntKind.wrap,IntKind.bits,IntKind.signed];omega
 have hK1:Kp (fun k=>k≠p∧k≠P) W1 W1.drew:=ax.drew;refine bZ (n:=48) (Kp (fun k=>k≠p∧k≠P) W1) (by kernel_rfl) ?_;refine Late.h HS 0 [48] rfl hK1 ?_;refine Late.h HS 1 [48] rfl hK1 ?_;refine Late.h HS 2 [48] rfl hK1 ?_;refine Late.h HS 3 [48] rfl hK1 ?_;refine Late.h HS 4 [48] rfl hK1 ?_;refine Late.h HS 5 [48] rfl hK1 ?_;refine Late.h HS 6 [48] rfl hK1 ?_;refine Late.h HS 7 [48] rfl hK1 ?_;refine Late.h HS 8 [48] rfl hK1 ?_;refine Late.h HS 9 [48] rfl hK1 ?_;refine Late.h HS 10 [48] rfl hK1 ?_;refine Late.h HS 11 [48] rfl hK1 ?_;refine Late.h HS 12 [48] rfl hK1 ?_;refine Late.h HS 13 [48] rfl hK1 ?_;refine Late.h HS 14 [48] rfl hK1 ?_;refine Late.h HS 15 [48] rfl hK1 ?_;refine Late.h HS 16 [48] rfl hK1 ?_;refine Late.h HS 17 [48] rfl hK1 ?_;refine Late.h HS 18 [48] rfl hK1 ?_;refine Late.h HS 19 [48] rfl hK1 ?_;refine Late.h HS 20 [48] rfl hK1 ?_;refine Late.h HS 21 [48] rfl hK1 ?_;refine Late.h HS 22 [48] rfl hK1 ?_;refine Late.h HS 23 [48] rfl hK1 ?_;refine Late.h HS 24 [48] rfl hK1 ?_;refine Late.h HS 25 [48] rfl hK1 ?_;refine Late.h HS 26 [48] rfl hK1 ?_;refine Late.h HS 27 [48] rfl hK1 ?_;refine Late.h HS 28 [48] rfl hK1 ?_;refine Late.h HS 29 [48] rfl hK1 ?_;refine Late.h HS 30 [48] rfl hK1 ?_;refine Late.h HS 31 [48] rfl hK1 ?_;refine Late.h HS 32 [48] rfl hK1 ?_;refine Late.h HS 33 [48] rfl hK1 ?_;refine Late.h HS 34 [48] rfl hK1 ?_;refine Late.h HS 35 [48] rfl hK1 ?_;refine Late.h HS 36 [48] rfl hK1 ?_;refine Late.h HS 37 [48] rfl hK1 ?_;refine Late.h HS 38 [48] rfl hK1 ?_;refine Late.h HS 39 [48] rfl hK1 ?_;refine Late.h HS 40 [48] rfl hK1 ?_;refine Late.h HS 41 [48] rfl hK1 ?_;refine Late.h HS 42 [48] rfl hK1 ?_;refine Late.h HS 43 [48] rfl hK1 ?_;refine Late.o 44 rfl (fun K hK=>?_);go_simp;refine hK _ _ (fun _=>(ax.alloc _).drew) ?_;clear hK K;try simp only[lX]
 refine Late.o 45 rfl (fun K hK=>?_);refine d_ rfl _ _ 133 133 rfl 169 Ev 5 40 Tryz.underlying133 CV rfl _ _ _ (by rfl) ((bH HA) _ (ax.alloc _).drew) _ (by rfl) 1 _ (uK _ _ _ Tryz.underlying133 _ _ (bH HR) (bH HO)) af af ?_;intro v' w1 o2 k2 s2;have k12:Kp (fun k=>k≠p∧k≠P) W1 w1:=(ax.alloc _).drew.trans (k2.mono (fun k _ e=>(bH HV) k e));refine hK _ _ (fun _=>k12) ?_;clear hK K;obtain⟨a',c',rfl,hc'⟩:=o2.shape;try simp only[lX]
 have Ew:w1.cell? ⟨P,10,none⟩=some (.slice aa m.asked.length ac):=k12.cell s10 aj;have WM:w1.frozen? ⟨P,10,none⟩=false:=by rw[World.frozen?_of_block (w:=W1) (a:=⟨P,10,none⟩) (k12.block P h1.blk.lt aj)];exact f10
 refine Late.o 46 rfl (fun K hK=>?_);go_simp;refine hK _ _ (fun _=>k12) ?_;clear hK K;try simp only[lX]
 refine Late.o 47 rfl (fun K hK=>?_);go_simp;refine hK _ _ (fun _=>k12) ?_;clear hK K;try simp only[lX]
 refine Late.o 48 rfl (fun K hK=>?_);go_simp;refine hK _ _ (fun h=>absurd rfl h) ?_;clear hK K;try simp only[lX]
 refine Late.done (by kernel_rfl) ?_ _
 go_end0
 have hw1:cu col w W1 col:=⟨(k1.mono (fun i _ hi=>by show col i≠.out;rw[hi,h.inn.cB];simp)),fun _ _=>rfl⟩
 obtain⟨r1,r2⟩:=h1.Ho hp1 hn ((ax.alloc _).drew) k2 s2 o2;exact⟨rfl,_,_,r1,hw1.trans r2⟩
theorem x_ (col:bU)(w:World)(P:Nat)(m:Pl.Sc)(place length:Int)(gW:Pl.xK)(ps qs:List Nat)(nv av wv hv gv xv:Value)(h:fA col w P m ps qs nv av wv hv gv)(hx:xM col w P xv gW)(hxo:∃f fi,xv=.func f fi #[])(hid:m.bW≤1000000000000)(hal:m.asked.length≤1000)(h0:0≤place)(h1:0≤length)(hpl:place+length≤1000000):
 Calls Tryz.prog 83 #[PtrTo P 7,.int .i64 place,.int .i64 length,xv] w fun e w'=>e=.returned (.tuple #[])∧∃bV p eZ,fA bV w' P (Pl.oQ m place.toNat length.toNat gW) (ps++[p]) qs nv eZ wv hv gv∧cu col w w' bV:=by
 obtain⟨f,fi,rfl⟩:=hxo;obtain⟨pl,rfl⟩:=Int.eq_ofNat_of_zero_le h0;obtain⟨ln,rfl⟩:=Int.eq_ofNat_of_zero_le h1;simp only[Int.toNat_natCast];obtain⟨c1,hc1⟩:∃c1,c1=fo col w.heap.size (w.heap.size+1) .part:=⟨_,rfl⟩
 have hlt:∀i,i<w.heap.size→c1 i=col i:=fun i hi=>by rw[hc1];exact kH _ _ _ _ _ hi
 have hat:c1 w.heap.size=.part:=by rw[hc1];exact nT _ _ _ _ _ (aK _) af
 have htop:∀i,w.heap.size+1≤i→c1 i=.out:=fun i hi=>by rw[hc1,nS _ _ _ _ _ hi];exact h.inn.top i af
 have hext:∀o,Ext w (w.alloc o):=fun o=>ax.alloc o
 have hR:∀o,fA c1 (w.alloc o) P m ps qs nv av wv hv gv:=fun o=>⟨h.blk.kept (hext o) id,h.inn.go (hext o) h.blk.lt (fun _ f=>f.elim) hlt (fun i hi=>htop i (by simpa using hi))⟩
 have hP:jU c1 (w.alloc (.cells #[PtrTo P 7,.int .i64 (pl:Int),.int .i64 (ln:Int),.slice none 0 0,.int .i64 0,.func f fi #[]] 164)) P w.heap.size ⟨pl,ln,[],0,gW⟩ (.slice none 0 0) (.func f fi #[]):=
  ⟨bK.bO w [PtrTo P 7,.int .i64 (pl:Int),.int .i64 (ln:Int),.slice none 0 0,.int .i64 0,.func f fi #[]] _,dZ.nil _,fun g hg=>by simp[Value.ownBlock]at hg,hx.go (hext _) (fun _ f=>f.elim) hlt,hat⟩
 have hn:w.heap.size∉ps++qs:=fun hm=>by
  rcases aI.1 hm with hm|hm
  ·have:=(h.inn.eY.lt hm).1;omega
  ·have:=(h.inn.gI.lt hm).1;omega
 have HR:=hide hR;have HP:=hide hP;have HE:=hide hext;have HL:=hide hlt;clear hR hP hext hlt htop hat hc1 hx;go_enter Tryz.func83,Tryz.ntmps83
 go_wp2_with fail
 refine(Pt c1 _ P w.heap.size m ⟨pl,ln,[],0,gW⟩ ps qs nv av wv hv gv _ _ ((bH HR) _) (bH HP) hn hid hal (by show pl+ln≤_;omega) aj).mono ?_;rintro e w1 ⟨rfl,c2,zi,r2,g2⟩
 go_wp2_with fail
 go_end0
 exact⟨rfl,c2,_,zi,r2,(⟨Kp.cZ ((bH HE) _),bH HL⟩:cu col w _ c1).trans g2⟩
theorem Te {w w':World}(h:Below w.heap.size w w'):Ext w w':=⟨h.os,h.tape,h.output,h.size,fun k hk _=>h.block k hk⟩
theorem Tf (s:ByteArray)(w:World)(hs:s.size≤100000):
 Calls Tryz.prog 117 #[.string s] w fun e w'=>e=.returned (.string s)∧Ext w w':=by
 by_cases h0:s.size=0
 ·obtain rfl:s=⟨#[]⟩:=ByteArray.ext (Array.eq_empty_of_size_eq_zero h0);go_enter Tryz.func117,Tryz.ntmps117;go_wp2;go_ret;exact⟨rfl,Kp.refl _ _⟩
 obtain⟨i0,hi,hz0,hz1,hz2⟩:=info_parts info5;have hsz:(Tryz.prog.info? 5).map (·.size)=some 1:=by rw[hi];simp[hz1]
 have hco:Tryz.prog.cellsOf 5=1:=by simp[Program.cellsOf,hi,hz1]
 generalize hM:madeCells (Value.int .u8 0).cells (((s.size:Nat):Int).toNat*i0.size)=M;have hMs:M.size=s.size:=by rw[←hM,size_madeCells,hz1];simp
 have hmk:∀u:World,(Instr.makeSlice 76 (.int .i64 (s.size:Int)) (.int .i64 (s.size:Int))).run Tryz.prog u=.ok (.slice (some ⟨u.heap.size,0,none⟩) s.size s.size) (u.alloc (.cells M 5)):=fun u=>by
  have h:=run_make (P:=Tryz.prog) u 76 5 i0 (.int .u8 0) Tryz.underlying76 hi hz0 .i64 .i64 (s.size:Int) (s.size:Int) af af (by rw[hz2];omega) af;rw[hM]at h;simpa using h
 have hcp:=Lib.run_copy_row_string (P:=Tryz.prog) (w.alloc (.cells M 5)) 76 9 3 5 w.heap.size 0 s.size s.size s M 5 Tryz.underlying76 hsz (heap_alloc_new w _) (aK _) af;generalize hY:(M.toList.take 0++Lib.byteCells s.data.toList++M.toList.drop (0+s.size)).toArray=Y at hcp;have hYl:Y.toList=Lib.byteCells s.data.toList:=by
  rw[←hY,List.toList_toArray,List.take_zero,List.nil_append,List.drop_of_length_le (by rw[Array.length_toList];omega),List.append_nil]
 have hYs:Y.size=s.size:=by rw[←Array.length_toList,hYl,Lib.byteCells_length,←Lib.size_eq]
 have hgY:((w.alloc (.cells M 5)).setRow w.heap.size Y).heap[w.heap.size]?=some (.cells Y 5 (0,0)):=setRow_heap _ _ M _ 5 (0,0) (heap_alloc_new w _);have hne:s.data.toList≠[]:=fun e=>h0 (by rw[Lib.size_eq,e];rfl)
 have hus:=Lib.run_unsafeString_row (P:=Tryz.prog) ((w.alloc (.cells M 5)).setRow w.heap.size Y) 224 3 9 5 Tryz.underlying224 hco w.heap.size Y.size (by unfold World.shape?;rw[hgY]) s.data.toList hne (by rw[←Lib.size_eq];omega) (by rw[←Lib.size_eq];omega)
  (fun j x hx=>Lib.cells_of_row hgY Y.size j _ (by rw[List.take_of_length_le (by rw[Array.length_toList];exact aK _),hYl];simp[Lib.byteCells,hx]))
 rw[←Lib.size_eq]at hus;clear hY hM;go_enter Tryz.func117,Tryz.ntmps117;go_wp2;go_ret;have hb1:Below w.heap.size w (w.alloc (.cells M 5)):=(Below.refl _ w).alloc (aK _) _;have hb2:Below w.heap.size (w.alloc (.cells M 5)) ((w.alloc (.cells M 5)).setRow w.heap.size Y):=⟨rfl,rfl,rfl,aj,fun k hk=>setRow_other _ _ _ _ af⟩
 exact⟨rfl,Te (Lib.below_freeze (hb1.trans hb2) (p:=⟨w.heap.size,0,none⟩) (aK _) _)⟩
theorem Ey (s:ByteArray)(w:World)(hs:s.size≤100000):
 Calls Tryz.prog 101 #[.string s] w fun e w'=>e=.returned (.string s)∧Ext w w':=by
 go_enter Tryz.func101,Tryz.ntmps101
 go_wp2_with fail
 refine(Tf s w hs).mono ?_;rintro e w1 ⟨rfl,x1⟩
 go_wp2_with fail
 go_ret;exact⟨rfl,x1⟩
namespace Pl
structure eU where
 group:Nat
 want:Nat
 page:ku
 deriving Inhabited
structure bQ where
 kind:Nat
 place:Nat
 length:Nat
 got:List UInt8:=[]
 failed:Nat:=0
 id:Nat:=0
 due:Nat:=0
 turn:Nat:=0
 parts:List eU:=[]
 deriving Inhabited
structure cO where
 size:Nat:=0
 want:List (List UInt8):=[]
 win:Nat:=0
 tries:Nat:=0
 dh:Nat:=0
 gap:Nat:=0
 state:Nat:=0
 pieces:List bQ:=[]
 made:Nat:=0
 now:Nat:=0
 fails:Nat:=0
 rows:List Nat:=[]
 there:List (List (List Int)):=[]
 next:Nat:=0
def fB (r:cO)(i:Nat):cO:={r with made:=r.made+1,pieces:=r.pieces.modify i fun p=>{p with id:=r.made+1,due:=0} }
def fZ :Nat→Nat→Nat→cO→cO
 |0,_,_,r=>r
 |f+1,i,n,r=>
  if i<r.pieces.length∧n<r.win∧r.state=0 then
   if(r.pieces.getD i default).got.length=(r.pieces.getD i default).length then fZ f (i+1) n r
   else if(r.pieces.getD i default).id=0∧(r.pieces.getD i default).due=0 then fZ f (i+1) (n+1) (fB r i)
   else fZ f (i+1) (n+1) r
  else r
def iQ (r:cO):cO:=fZ r.pieces.length 0 0 r
theorem zT (r:cO)(i:Nat):(fB r i).pieces.length=r.pieces.length:=by simp[fB]
def iT (id:Nat)(l:List bQ):List (Nat×Nat×Nat):=l.filterMap fun p=>if p.id=id then some (id,p.place+p.got.length,p.length-p.got.length)else none
def fK (l:List bQ):Nat→List (Nat×Nat×Nat)
 |0=>[]
 |k+1=>fK l k++iT (k+1) l
def jg (r:cO):List (Nat×Nat×Nat):=if r.state=0 then fK r.pieces r.made else[]
def qJ (size:Nat)(want:List (List UInt8))(w t n g:Nat):cO:=
 if size<10 then{size:=size,want:=want,win:=w,tries:=t,dh:=n,gap:=g,state:=2}
 else iQ {size:=size,want:=want,win:=w,tries:=t,dh:=n,gap:=g,pieces:=[{kind:=0,place:=size-6,length:=6}]}
theorem K9 (id:Nat)(l:List bQ)(p:bQ):iT id (l++[p])=iT id l++(if p.id=id then[(id,p.place+p.got.length,p.length-p.got.length)]else[]):=by
 unfold iT;rw[List.filterMap_append]
 congr 1
 simp only[List.filterMap_cons,List.filterMap_nil];split<;>rename_i h<;>split at h<;>simp_all
theorem yL (id:Nat)(l:List bQ):(iT id l).length=l.countP fun p=>decide (p.id=id):=by
 induction l with
 |nil=>rfl
 |cons p r ih=>
  unfold iT at*;by_cases h:p.id=id
  ·rw[List.filterMap_cons_some (by rw[if_pos h]),List.countP_cons_of_pos (by simpa using h),aR,ih]
  ·rw[List.filterMap_cons_none (by rw[if_neg h]),List.countP_cons_of_neg (by simpa using h),ih]
theorem Dk (l:List bQ):∀k,(fK l k).length=l.countP fun p=>decide (1≤p.id∧p.id≤k)
 |0=>by
  symm
  simp only[fK,List.length_nil,List.countP_eq_zero];intro p _;simp;omega
 |k+1=>by
  simp only[fK,aD,Dk l k,yL];induction l with
  |nil=>rfl
  |cons p r ih=>
   simp only[List.countP_cons];have:(if decide (1≤p.id∧p.id≤k)=true then 1 else 0)+(if decide (p.id=k+1)=true then 1 else 0)=(if decide (1≤p.id∧p.id≤k+1)=true then 1 else 0):=by
    simp only[decide_eq_true_eq]
    repeat' split
    all_goals omega
   omega
theorem Qy (l:List bQ)(k:Nat):(fK l k).length≤l.length:=by rw[Dk];exact List.countP_le_length
theorem Dl (l:List bQ)(k i:Nat):(fK l k++iT (k+1) (l.take i)).length≤l.length:=by
 have h1:=Qy l (k+1);have h2:(iT (k+1) (l.take i)).length≤(iT (k+1) l).length:=by
  rw[yL,yL];exact(List.take_sublist i l).countP_le
 simp only[fK,aD]at*;omega
end Pl
end Go.Proofs.YthicgffppmbamaaGreat
