/- Rows of items of which the last may lie in memory that is not the call's own. -/
import Derived.Test.YtalhnnjpjaeakaaGreatAK
import Derived.Test.YtalhnnjpjaeakaaGreatG18
import Derived.Test.YtalhnnjpjaeakaaGreatG14
import Derived.Test.YtalhnnjpjaeakaaGreatG15
import Derived.Test.YtalhnnjpjaeakaaGreatG07
import Derived.Deep.CutRange
set_option linter.unusedVariables false
set_option maxRecDepth 100000
set_option maxHeartbeats 4000000
open Go.Proofs.Tryz Go.RowKit
namespace Go.Proofs.YtalhnnjpjaeakaaGreat
variable {w w0 w1 v' U : World} {base k gI c i j : Nat} {ys : List V} {ts : List T} {y : V} {x : NV} {b r : List Int} {deep : Bool}
def AllL(w:World):List T->List V->Prop
 |[],[]=>True
 |t::ts,y::ys=>Lies w t y/\AllL w ts ys
 |_,_=>False
theorem AllL.len{w:World}:∀{ts:List T}{ys:List V},AllL w ts ys->ts.length=ys.length
 |[],[],_=>rfl
 |t::ts,y::ys,h=>by have:=AllL.len h.2;simp[this]
theorem AllP.lies{P:Nat->Prop}{w:World}:∀{ts:List T}{ys:List V},AllP P w ts ys->AllL w ts ys
 |[],[],_=>trivial
 |t::ts,y::ys,h=>⟨CX t y h.1,AllP.lies h.2⟩
theorem AllL.snoc{w:World}{t:T}{y:V}(h1:Lies w t y):∀{ts:List T}{ys:List V},AllL w ts ys->AllL w (ts++[t]) (ys++[y])
 |[],[],_=>⟨h1,trivial⟩
 |_::ts,_::ys,h=>⟨h.1,AllL.snoc h1 h.2⟩
theorem Nv{w:World}{g:Nat}{all:List V}(hc:∀j u,(all.flatMap V.cells)[j]?=some u->w.cell? ((⟨g,0,none⟩:Addr).add j)=some u):
 ∀(ts:List T)(ys pre:List V),all=pre++ys->AllL w ts ys->LiesAll w ts (some ⟨g,0,none⟩) pre.length
 |[],[],pre,_,_=>Ds
 |t::ts,y::ys,pre,e,h=>by
  have hr:=Nv hc ts ys (pre++[y]) (by rw[e];simp) h.2;rw[Ab]at hr;refine liesAll_cons.2 ⟨⟨g,0,y,rfl,?_,?_,?_,h.1⟩,hr⟩
  ·have:=hc (pre.length*3+0) (.bool y.l) (by rw[e];exact Fj pre y ys 0 _ rfl);rw[BM]at this;simpa using this
  ·have:=hc (pre.length*3+1) (.slice y.ba y.bn y.bc) (by rw[e];exact Fj pre y ys 1 _ rfl);rw[BM]at this;rw[show 0+pre.length*3+1=0+(pre.length*3+1)from by omega];exact this
  ·have:=hc (pre.length*3+2) (.slice y.ia y.m y.ic) (by rw[e];exact Fj pre y ys 2 _ rfl);rw[BM]at this;rw[show 0+pre.length*3+2=0+(pre.length*3+2)from by omega];exact this
theorem JY{v:Value}(hown:OwnI w base v ys)(h:AllL w ts ys):
 ∃ia ic,v= .slice ia ts.length ic/\ts.length<=ic/\ic<=maxLen/\LiesAll w ts ia 0:=by
 have hl:=h.len;rcases hown.2 with⟨rfl,hn0⟩|⟨g,cap,cur,rfl,hbg,hg,hnc,hcm,hcs,htake⟩
 ·have:ts=[]:=Ar (by omega);subst this;exact⟨none,0,rfl,Aa _,by unfold maxLen;omega,Ds⟩
 ·exact⟨some ⟨g,0,none⟩,cap,by rw[hl],by omega,hcm,Nv (DN hown (g:=g) rfl) ts ys [] rfl h⟩
theorem Rd{wr:World}{it:Value}{t:T}(hb0:Below w0.heap.size w0 w)(hown:OwnI wr w.heap.size it ys)(hall:AllP (λb=>w.heap.size<=b/\it.ownBlock≠some b) wr ts ys)(hbel:Below w.heap.size w wr)(hb1:Below wr.heap.size wr w1)
 (hy:Lies w0 t y) (hlen:ys.length<=1000000000) (ty:TypeId):
 ∃v' w3,(Builtin.append_ #[108,108] ty #[it, .slice (some ⟨w1.heap.size,0,none⟩) 1 1]).run prog (w1.alloc (.cells #[.bool y.l, .slice y.ba y.bn y.bc, .slice y.ia y.m y.ic] 110))= .ok v' w3/\
  Below w.heap.size w w3/\w1.heap.size<=w3.heap.size/\
  ∃ia ic,v'= .slice ia (ts.length+1) ic/\ts.length+1<=ic/\ic<=maxLen/\∀w4,w3.heap.size<=w4.heap.size->(∀b,w.heap.size<=b->b<w3.heap.size->w4.heap[b]?=w3.heap[b]?)->Below w0.heap.size w0 w4->LiesAll w4 (ts++[t]) ia 0:=by
 obtain⟨Y,hY⟩:∃Y:Obj,Obj.cells #[.bool y.l, .slice y.ba y.bn y.bc, .slice y.ia y.m y.ic] 110=Y:=⟨_,rfl⟩;rw[hY];have hs2:(w1.alloc Y).heap.size=w1.heap.size+1:=by simp
 have hb2:Below wr.heap.size wr (w1.alloc Y):=hb1.alloc hb1.size _;have hz:=hbel.size;have hz1:=hb1.size;have hblk:(w1.alloc Y).heap[w1.heap.size]?=some Y:=Ai w1 Y;have hnews:∀j u,(V.cells y)[j]?=some u->(w1.alloc Y).cell? ((⟨w1.heap.size,0,none⟩:Addr).add j)=some u:=by
  intro j u hu;rw[BM,AD];rw[<-hY]at hblk⊢;rw[Ae _ _ _ _ _ _ hblk];simpa[V.cells]using hu
 obtain⟨v',w3,hrun,hown3,hgr,hown4⟩:=Je (DZ hown λg _ hg=>hb2.block g hg) y _ 1 hnews (by omega) hlen ty;have hfar:∀b,b<w1.heap.size+1->it.ownBlock≠some b->w3.heap[b]?=(w1.alloc Y).heap[b]?:=λb hb hne=>hgr.block b (by rw[hs2];exact hb) (λh=>hne h.symm);have hz3:w1.heap.size<=w3.heap.size:=by have:=hgr.size;omega
 have hB3:Below w.heap.size w w3:=by
  refine hbel.trans ⟨hgr.os.trans hb2.os,hgr.tape.trans hb2.tape,hgr.output.trans hb2.output,Al hb2.size hgr.size,λb hb=>?_⟩;rw[hfar b (by omega) (λh=>by have:=(EX hown h).1;omega)];exact hb2.block b (by omega)
 have hall3:AllP (λb=>w.heap.size<=b) w3 ts ys:=hall.mono λb hb hlt=>⟨by rw[hfar b (by omega) hb.2];exact hb2.block b hlt,hb.1⟩;refine⟨v',w3,hrun,hB3,hz3,?_⟩;have key:∀w4,w3.heap.size<=w4.heap.size->(∀b,w.heap.size<=b->b<w3.heap.size->w4.heap[b]?=w3.heap[b]?)->Below w0.heap.size w0 w4->∃ia ic,v'= .slice ia (ts++[t]).length ic/\(ts++[t]).length<=ic/\ic<=maxLen/\LiesAll w4 (ts++[t]) ia 0:=λw4 h1 h2 h3=>
  JY (DZ hown3 λg hg hlt=>h2 g (EX hown3 hg).1 hlt) (AllL.snoc (Cg h3 t y hy) (AllP.lies (P:=λb=>w.heap.size<=b) (hall3.mono λb hb hlt=>⟨h2 b hb hlt,hb⟩)))
 obtain⟨ia,ic,e1,e2,e3,_⟩:=key w3 (Aa _) (λ_ _ _=>rfl) (below_go hb0 hB3);rw[Ab]at e1 e2;refine⟨ia,ic,e1,e2,e3,λw4 h1 h2 h3=>?_⟩;obtain⟨ia',ic',e1',_,_,hl⟩:=key w4 h1 h2 h3;rw[e1,Ab]at e1';injection e1' with q1 q2 q3;rw[q1];exact hl
def trunc(base:Nat)(w:World):World:={w with heap:=w.heap.take base}
theorem IL(h:base<=w.heap.size):(trunc base w).heap.size=base:=by
 show(w.heap.take base).size=base;simp;omega
theorem GZ(h:k<base):(trunc base w).heap[k]?=w.heap[k]?:=by
 show(w.heap.take base)[k]?=w.heap[k]?;rw[Array.take_eq_extract,Array.getElem?_extract];by_cases hk:k<w.heap.size
 ·rw[Af (by omega),AD]
 ·rw[Ad (by omega),Array.getElem?_eq_none (by omega)]
theorem K3(h:base<=w.heap.size):Below base (trunc base w) w:=⟨rfl,rfl,rfl,by rw[IL h];exact h,λk hk=>(GZ hk).symm⟩
theorem K4{w':World}(h:base<=w.heap.size)(hz:w.heap.size<=w'.heap.size)(hb:Below base (trunc base w) w'):Below base w w':=⟨hb.os,hb.tape,hb.output,hz,λk hk=>(hb.block k hk).trans (GZ hk)⟩
theorem Re{wr:World}{it:Value}{t:T}(hz:base<=wr.heap.size)(hown:OwnI wr base it ys)(hall:AllP (λb=>base<=b/\it.ownBlock≠some b) wr ts ys)(hb1:Below wr.heap.size wr w1)
 (hy:LiesP (λb=>wr.heap.size<=b) w1 t y) (hlen:ys.length<=1000000000) (ty:TypeId):
 ∃v' w3,(Builtin.append_ #[108,108] ty #[it, .slice (some ⟨w1.heap.size,0,none⟩) 1 1]).run prog (w1.alloc (.cells #[.bool y.l, .slice y.ba y.bn y.bc, .slice y.ia y.m y.ic] 110))= .ok v' w3/\
  OwnI w3 base v' (ys++[y])/\AllP (λb=>base<=b/\v'.ownBlock≠some b) w3 (ts++[t]) (ys++[y])/\Below base wr w3:=by
 have hs:=IL hz;obtain⟨v',w3,h1,h2,h3,h4,_,h6⟩:=JU (w:=trunc base wr) (wr:=wr) (w1:=w1) (by rw[hs];exact hown) (by rw[hs];exact hall) (by rw[hs];exact K3 hz) hb1 hy hlen ty;rw[hs]at h2 h3 h4;exact⟨v',w3,h1,h2,h3,K4 hz (by have:=hb1.size;omega) h4⟩
theorem PS{wr:World}{it:Value}{t:T}(hz0:w0.heap.size<=base)(hb0:Below w0.heap.size w0 wr)(hz:base<=wr.heap.size)(hown:OwnI wr base it ys)(hall:AllP (λb=>base<=b/\it.ownBlock≠some b) wr ts ys)(hb1:Below wr.heap.size wr w1)
 (hy:Lies w0 t y) (hlen:ys.length<=1000000000) (ty:TypeId):
 ∃v' w3,(Builtin.append_ #[108,108] ty #[it, .slice (some ⟨w1.heap.size,0,none⟩) 1 1]).run prog (w1.alloc (.cells #[.bool y.l, .slice y.ba y.bn y.bc, .slice y.ia y.m y.ic] 110))= .ok v' w3/\
  Below base wr w3/\
  ∃ia ic,v'= .slice ia (ts.length+1) ic/\ts.length+1<=ic/\ic<=maxLen/\∀w4,w3.heap.size<=w4.heap.size->(∀b,base<=b->b<w3.heap.size->w4.heap[b]?=w3.heap[b]?)->Below w0.heap.size w0 w4->LiesAll w4 (ts++[t]) ia 0:=by
 have hs:=IL hz;have hb0':Below w0.heap.size w0 (trunc base wr):=⟨hb0.os,hb0.tape,hb0.output,by rw[hs];exact hz0,λk hk=>(GZ (by omega)).trans (hb0.block k hk)⟩;obtain⟨v',w3,h1,h2,h3,h4⟩:=Rd (w:=trunc base wr) (wr:=wr) (w1:=w1) hb0' (by rw[hs];exact hown) (by rw[hs];exact hall) (by rw[hs];exact K3 hz) hb1 hy hlen ty;rw[hs]at h2 h4;exact⟨v',w3,h1,K4 hz (by have:=hb1.size;omega) h2,h4⟩
structure En(w v:World)(x:NV)(gI:Nat)(it:Value):Prop where
 row:v.heap[gI]?=some (.cells #[.bool true, .slice none 0 0,it] 110)
 bx:NBx w.heap.size v x
 bel:Below w.heap.size w v
 gi:w.heap.size<gI
 sz:gI+1<=v.heap.size
theorem En.go{v:World}{it:Value}(h:En w v x gI it)(hb:Below (gI+1) v v'):En w v' x gI it:=
 ⟨(hb.block gI (by omega)).trans h.row,⟨(hb.block _ (by have:=h.gi;omega)).trans h.bx.row,h.bx.l⟩,
   ⟨hb.os.trans h.bel.os,hb.tape.trans h.bel.tape,hb.output.trans h.bel.output,Al h.bel.size hb.size,λk hk=>(hb.block k (by have:=h.gi;omega)).trans (h.bel.block k hk)⟩,h.gi,Al h.sz hb.size⟩
theorem En.all{v:World}{it:Value}(h:En w v x gI it)(hb:Below v.heap.size v v'):En w v' x gI it:=h.go ⟨hb.os,hb.tape,hb.output,hb.size,λk hk=>hb.block k (by have:=h.sz;omega)⟩
theorem En.c0{v:World}{it:Value}(h:En w v x gI it):v.cell? ⟨gI,0,none⟩=some (.bool true):=by rw[Ae _ _ _ _ _ _ h.row];rfl
theorem En.c1{v:World}{it:Value}(h:En w v x gI it):v.cell? ⟨gI,1,none⟩=some (.slice none 0 0):=by rw[Ae _ _ _ _ _ _ h.row];rfl
theorem En.c2{v:World}{it:Value}(h:En w v x gI it):v.cell? ⟨gI,2,none⟩=some it:=by rw[Ae _ _ _ _ _ _ h.row];rfl
theorem En.fz{v:World}{it:Value}(h:En w v x gI it):∀o,v.frozen? ⟨gI,o,none⟩=false:=λo=>AL _ _ _ _ _ h.row
theorem En.put{v:World}{it:Value}(h:En w v x gI it)(it':Value):En w (v.setCell ⟨gI,2,none⟩ it') x gI it':=by
 refine⟨?_,⟨(A8 _ _ _ _ (by show w.heap.size≠gI;have:=h.gi;omega)).trans h.bx.row,h.bx.l⟩,h.bel.setCell (by have:=h.gi;show w.heap.size<=gI;omega) it',h.gi,by simpa using h.sz⟩;have:=AN v gI 2 _ 110 it' h.row;rw[this];rfl
def So(gI:Nat)(v:World)(it:Value)(ts:List T):Prop:=∃ys:List V,OwnI v (gI+1) it ys/\AllP (λb=>gI+1<=b/\it.ownBlock≠some b) v ts ys
theorem So.put{v:World}{it:Value}(h:So gI v it ts)(u:Value):So gI (v.setCell ⟨gI,2,none⟩ u) it ts:=by
 obtain⟨ys,h1,h2⟩:=h;exact⟨ys,DZ h1 λg hg _=>A8 _ _ _ _ (by have:=(EX h1 hg).1;show g≠gI;omega),h2.mono λb hb _=>⟨A8 _ _ _ _ (by show b≠gI;omega),hb⟩⟩
theorem So.all{v:World}{it:Value}(h:So gI v it ts)(hb:Below v.heap.size v v'):So gI v' it ts:=by
 obtain⟨ys,h1,h2⟩:=h;exact⟨ys,DZ h1 λg _ hlt=>hb.block g hlt,h2.mono λb hb' hlt=>⟨hb.block b hlt,hb'⟩⟩
theorem ZU(gI:Nat)(v:World):So gI v (.slice none 0 0) []:=⟨[],Dk _ _ _ _,trivial⟩
theorem WI{wr:World}{it:Value}{t:T}(hz:gI+1<=wr.heap.size)(h:So gI wr it ts)(hb1:Below wr.heap.size wr w1)(hy:LiesP (λb=>wr.heap.size<=b) w1 t y)(hlen:ts.length<=1000)(ty:TypeId):
 ∃v' w3,(Builtin.append_ #[108,108] ty #[it, .slice (some ⟨w1.heap.size,0,none⟩) 1 1]).run prog (w1.alloc (.cells #[.bool y.l, .slice y.ba y.bn y.bc, .slice y.ia y.m y.ic] 110))= .ok v' w3/\So gI w3 v' (ts++[t])/\Below (gI+1) wr w3:=by
 obtain⟨ys,h1,h2⟩:=h;obtain⟨v',w3,e1,e2,e3,e4⟩:=Re hz h1 h2 hb1 hy (by have:=h2.len;omega) ty;exact⟨v',w3,e1,⟨_,e2,e3⟩,e4⟩
def Full(gI:Nat)(w v:World)(it:Value)(ts:List T):Prop:=∃ia ic,it= .slice ia ts.length ic/\ts.length<=ic/\ic<=maxLen/\LiesAll v ts ia 0
theorem So.full{v:World}{it:Value}(h:So gI v it ts):Full gI w v it ts:=by
 obtain⟨ys,h1,h2⟩:=h;exact JY h1 h2.lies
theorem YA{wr:World}{it:Value}{t:T}(hE:En w wr x gI it)(h:So gI wr it ts)(hb1:Below wr.heap.size wr w1)(hy:Lies w t y)(hlen:ts.length<=1000)(ty:TypeId):
 ∃v' w3,(Builtin.append_ #[108,108] ty #[it, .slice (some ⟨w1.heap.size,0,none⟩) 1 1]).run prog (w1.alloc (.cells #[.bool y.l, .slice y.ba y.bn y.bc, .slice y.ia y.m y.ic] 110))= .ok v' w3/\Below (gI+1) wr w3/\Full gI w (w3.setCell ⟨gI,2,none⟩ v') v' (ts++[t]):=by
 obtain⟨ys,h1,h2⟩:=h;obtain⟨v',w3,e1,e2,ia,ic,e3,e4,e5,e6⟩:=PS (base:=gI+1) (by have:=hE.gi;omega) hE.bel hE.sz h1 h2 hb1 hy (by have:=h2.len;omega) ty;refine⟨v',w3,e1,e2,ia,ic,by rw[Ab];exact e3,by rw[Ab];exact e4,e5,e6 _ (by simp) (λb hb _=>A8 _ _ _ _ (by show b≠gI;omega)) ((hE.go e2).put v').bel⟩
theorem ownB_nil(w:World)(base:Nat):OwnB w base (.slice none 0 0) []:=⟨rfl, .inl ⟨rfl,rfl⟩⟩
theorem Rg{a:Option Addr}{n:Nat}{bs:List Int}(h:OwnB w base (.slice a n c) bs):∀g off,a=some ⟨g,off,none⟩->base<=g/\∀o,w.frozen? ⟨g,o,none⟩=false:=by
 intro g off e;subst e;refine⟨h.lt g rfl,λo=>?_⟩;rcases h.2 with⟨h2,_⟩|⟨g',cap,cur,hv,_,hh,_⟩
 ·cases h2
 ·injection hv with e1 _ _;cases e1;exact AL _ _ _ _ _ hh
theorem Rh(a:Option Addr)(n c:Nat)(b:List Int)(w:World)(h:Ag w a n c b)(hn:n<=140737488351232):
 Calls prog 151 #[.slice a n c] w λe w'=>(∃a' c',e= .returned (.slice a' n c')/\Ag w' a' n c' b/\∀g off,a'=some ⟨g,off,none⟩->w.heap.size<=g/\∀o,w'.frozen? ⟨g,o,none⟩=false)/\Below w.heap.size w w':=by
 have HA:=XaI h;clear h;go_enter func151,ntmps151;go_wp2_with (first|(at_builtin;refine D8 rfl (.tmp 4) (.tmp 5) rfl w.heap.size _ [] rfl (ownB_nil w _) a n c b rfl HA.out.i HA.out.nil HA.out.l (by simp;omega) (Aa _) ?_;intro v1 w1 o1 hb1;rw[A6]at o1;obtain⟨a1,c1,rfl,hag1⟩:=OwnB.ag o1 HA.out.b;rw[HA.out.l]at hag1⊢;have HB1:=XaI hb1;have HA1:=XaI hag1;have HO1:=XaI (Rg o1);clear o1 hb1 hag1));go_ret;exact⟨⟨a1,c1,rfl,HA1.out,HO1.out⟩,HB1.out⟩
def pc(b:List Int)(i j:Nat):List Int:=(b.take j).drop i
theorem IM(h:j<=b.length):(pc b i j).length=j-i:=by unfold pc;rw[AQ,Ap];omega
theorem WJ(h:j<=i):pc b i j=[]:=by unfold pc;rw[Br];rw[Ap];omega
theorem J8(h:i<j)(hj:j<=b.length):pc b i j=b.getD i 0::pc b (i+1) j:=by
 unfold pc;rw[Bq (by rw[Ap];omega),List.getElem_take,List.getD,Ac (by omega)];rfl
theorem WK{f t:Nat}(h:i+t<=j):((pc b i j).take t).drop f=pc b (i+f) (i+t):=by
 unfold pc;rw[List.take_drop,List.drop_drop,Es,CM h]
theorem Rj(h:i+k<j)(hj:j<=b.length):(pc b i j).getD k 0=b.getD (i+k) 0:=by
 unfold pc;rw[List.getD,C9,AO h];rfl
theorem WL{x:Int}(h:x∈pc b i j):x∈b:=Bi (BH h)
def zeroV:Value:= .agg #[.bool false, .slice none 0 0, .slice none 0 0]
def FPost(w:World)(i:Nat)(r:R):Ending->World->Prop:=λe w'=>Below w.heap.size w w'/\
 match r with
 | .bad er=>e= .returned (.tuple #[.agg #[.bool false, .slice none 0 0, .slice none 0 0], .int .i64 0, .int .i64 (er:Nat)])/\er≠0
 | .ok t m=>∃y:V,e= .returned (.tuple #[.agg #[.bool y.l, .slice y.ba y.bn y.bc, .slice y.ia y.m y.ic], .int .i64 (i+m:Nat), .int .i64 0])/\LiesP (λb=>w.heap.size<=b) w' t y
def FSaid(k:Nat):Prop:=∀(a:Option Addr)(n c:Nat)(b:List Int)(w:World),Ag w a n c b->n<=140737488351232->∀i j d:Nat,i<=j->j<=n->d+k=8->
 Calls prog 150 #[.slice a n c, .int .i64 i, .int .i64 j, .int .i64 d] w (FPost w i (rd k (pc b i j)))
def GPost(w:World)(j:Nat)(r:RL):Ending->World->Prop:=λe w'=>Below w.heap.size w w'/\
 match r with
 | .bad er=>e= .returned (.tuple #[.agg #[.bool false, .slice none 0 0, .slice none 0 0], .int .i64 0, .int .i64 (er:Nat)])/\er≠0
 | .ok ts=>∃ia ic,e= .returned (.tuple #[.agg #[.bool true, .slice none 0 0, .slice ia ts.length ic], .int .i64 j, .int .i64 0])/\ts.length<=ic/\ic<=maxLen/\LiesPAll (λb=>w.heap.size<=b) w' ts ia 0
theorem Mg(h:3<c):lenIn r c=(0,23):=by unfold lenIn;rw[Af h]
theorem K5(h:¬3<c)(h2:r.length<c):lenIn r c=(0,22):=by unfold lenIn;rw[Ad h,Af h2]
theorem Mh(h:¬3<c)(h2:¬r.length<c)(h3:r.headD 0=0∨val (r.take c)<=55):lenIn r c=(0,23):=by unfold lenIn;rw[Ad h,Ad h2,Af h3]
theorem Rk(h:¬3<c)(h2:¬r.length<c)(h3:¬(r.headD 0=0∨val (r.take c)<=55)):lenIn r c=(val (r.take c),0):=by unfold lenIn;rw[Ad h,Ad h2,Ad h3]
theorem OA{x:Int}(h1:¬(192<=x/\deep=true))(h2:¬x<128):hdr deep (x::r)=if 55<nOf x then(if(lenIn r (nOf x-55)).2≠0 then .bad (lenIn r (nOf x-55)).2 else if(x::r).length-(1+(nOf x-55))<(lenIn r (nOf x-55)).1 then .bad 22 else .ok (1+(nOf x-55)) (1+(nOf x-55)+(lenIn r (nOf x-55)).1))else if(x::r).length-1<nOf x then .bad 22 else .ok 1 (1+nOf x):=by
 unfold hdr;simp only;rw[Ad h1,Ad h2]
structure Hd(deep:Bool)(x:Int)(r:List Int)(f L:Nat):Prop where
 f1:1<=f
 f4:f<=4
 L24:L<16777216
 iff:f=1↔L<=55
 fle:f<=r.length+1
 eq:hdr deep (x::r)=if(r.length+1)-f<L then .bad 22 else .ok f (f+L)
theorem WM{x:Int}(h1:¬(192<=x/\deep=true))(h2:¬x<128)(h3:¬55<nOf x):Hd deep x r 1 (nOf x):=
 ⟨Aa _,by omega,by omega,by omega,by omega,by rw[OA h1 h2,Ad h3];rfl⟩
theorem SU{x:Int}(hb:∀y∈r,0<=y/\y<256)(h1:¬(192<=x/\deep=true))(h2:¬x<128)(h3:55<nOf x)(h4:¬3<nOf x-55)(h5:¬r.length<nOf x-55)(h6:¬(r.headD 0=0∨val (r.take (nOf x-55))<=55)):Hd deep x r (1+(nOf x-55)) (val (r.take (nOf x-55))):=by
 have hv:=DD hb (j:=nOf x-55) (by omega) (by omega);refine⟨by omega,by omega,by omega,by omega,by omega,?_⟩;rw[OA h1 h2,Af h3,Rk h4 h5 h6];simp only[ne_eq,not_true,DQ];rfl
theorem JZ{x:Int}{er:Nat}(h1:¬(192<=x/\deep=true))(h2:¬x<128)(h3:55<nOf x)(h4:lenIn r (nOf x-55)=(0,er))(her:er≠0):hdr deep (x::r)= .bad er:=by
 rw[OA h1 h2,Af h3,h4];simp only;rw[Af her]
theorem Fe{g:List Int->R}{e:Nat}(h:hdr deep b= .bad e):rd1 g deep b= .bad e:=by unfold rd1;rw[h]
theorem Rl(a:Option Addr)(n c i j d:Nat)(w:World)(k:Nat)(b:List Int)(hij:¬i<j)(hi:i<=140737488351232)(hrd:rd k (pc b i j)= .bad 22):
 Calls prog 150 #[.slice a n c, .int .i64 i, .int .i64 j, .int .i64 d] w (FPost w i (rd k (pc b i j))):=by
 rw[hrd];have hge:(i:Int)>=j:=by omega
 clear hrd;go_enter func150,ntmps150
 go_upto_if 18 with fail
 refine gen_w (p:=λv=>Code.wp _ _ _ _ v) (q:=Rb w) (Rb.new w) ?_;intro v R;have x0:=R.x0;have x1:=R.x1;have x2:=R.x2;have xf:=R.xf;have HR:=XaI R;clear R;go_wp2_with fail;have hr:=put3 HR.out.row (.bool false) (.slice none 0 0) (.slice none 0 0);refine Ao (Bd results150 _ _ w.heap.size _ _ _ rfl hr) rfl ?_;exact⟨Ce HR.out.bel (Aa _) _ _ _,rfl,by decide⟩
theorem PT(a:Option Addr)(n c i j:Nat)(w:World)(b:List Int)(h:Ag w a n c b)(hn:n<=140737488351232)(hij:i<j)(hj:j<=n)(x:Int)(hx:b.getD i 0=x)(h192:192<=x)(res:R)(hres:res= .bad 21):
 Calls prog 150 #[.slice a n c, .int .i64 i, .int .i64 j, .int .i64 8] w (FPost w i res):=by
 subst hres;obtain⟨g,off,rfl,hc1,hc2,hc⟩:=ag_head h (by omega);unfold maxLen at hc2;have hcell:=hc i (by omega);rw[hx]at hcell;have hxb:=(h.b x (by rw[<-hx,List.getD,Ac (by rw[h.l];omega)];exact Bo _)).2;have hlt:(i:Int)<j:=by omega
 have hin:(i:Int)<n:=by omega
 clear hx hc h;go_enter func150,ntmps150
 go_upto_if 18 with fail
 have hcw:=AM (Rb.new w).bel hcell;refine gen_w (p:=λv=>Code.wp _ _ _ _ v) (q:=λv=>Rb w v/\v.cell? ⟨g,off+i,none⟩=some (.int .u8 x)) ⟨Rb.new w,hcw⟩ ?_;clear hcell hcw;rintro v⟨R,hcell⟩;have x0:=R.x0;have x1:=R.x1;have x2:=R.x2;have xf:=R.xf;have HR:=XaI R;clear R;go_wp2_with fail;have hr:=put3 HR.out.row (.bool false) (.slice none 0 0) (.slice none 0 0);refine Ao (Bd results150 _ _ w.heap.size _ _ _ rfl hr) rfl ?_;exact⟨Ce HR.out.bel (Aa _) _ _ _,rfl,by decide⟩
theorem Rm(a:Option Addr)(n c i j d:Nat)(w:World)(b:List Int)(h:Ag w a n c b)(hn:n<=140737488351232)(hij:i<j)(hj:j<=n)(x:Int)(hx:b.getD i 0=x)(h128:x<128)(res:R)(hres:res= .ok (.mk false [x] []) 1):
 Calls prog 150 #[.slice a n c, .int .i64 i, .int .i64 j, .int .i64 d] w (FPost w i res):=by
 subst hres;obtain⟨g,off,rfl,hc1,hc2,hc⟩:=ag_head h (by omega);unfold maxLen at hc2;have hcell:=hc i (by omega);rw[hx]at hcell;have hxb:=(h.b x (by rw[<-hx,List.getD,Ac (by rw[h.l];omega)];exact Bo _)).1;have hlt:(i:Int)<j:=by omega
 have hin:(i:Int)<n:=by omega
 clear hx hc h;go_enter func150,ntmps150
 go_upto_if 18 with fail
 have hcw:=AM (Rb.new w).bel hcell;refine gen_w (p:=λv=>Code.wp _ _ _ _ v) (q:=λv=>Rb w v/\v.cell? ⟨g,off+i,none⟩=some (.int .u8 x)) ⟨Rb.new w,hcw⟩ ?_;clear hcell hcw;rintro v⟨R,hcell⟩;have HR:=XaI R;clear R;have R2:=HR.out.alloc (.cells #[.int .u8 x] 5);have HR2:=XaI R2;have x0:=R2.x0;have x1:=R2.x1;have x2:=R2.x2;have xf:=R2.xf;clear R2;go_wp2_with fail;have hr:=put3 HR2.out.row (.bool false) (.slice (some ⟨v.heap.size,0,none⟩) 1 1) (.slice none 0 0);refine Ao (Bd results150 _ _ w.heap.size _ _ _ rfl hr) rfl ?_;have hz:=HR.out.bel.size;have hz2:=lt_of_get HR.out.row;refine⟨Ce HR2.out.bel (Aa _) _ _ _,⟨false,some ⟨v.heap.size,0,none⟩,1,1,none,0,0⟩,by simp,?_⟩
 have hrow:Row v.heap.size (((v.alloc (.cells #[.int .u8 x] 5)).setCell ⟨w.heap.size,0,none⟩ (.bool false)).setCell ⟨w.heap.size,1,none⟩ (.slice (some ⟨v.heap.size,0,none⟩) 1 1)|>.setCell ⟨w.heap.size,2,none⟩ (.slice none 0 0)) [x]:=
  (Dn (by omega) _ _ _).trans (Ai _ _)
 exact EY hrow rfl (λy hy=>by
  have e:y=x:=by simpa using hy
  omega) (by omega) (by omega)
set_option maxRecDepth 20000 in
theorem PU(gg:List Int->R)(a:Option Addr)(n c i j d:Nat)(w:World)(b:List Int)(h:Ag w a n c b)(hn:n<=140737488351232)(hij:i<j)(hj:j<=n)(hd:d<=8)(x:Int)(hx:b.getD i 0=x)(hlo:128<=x)(hhi:x<192)(res:R)
 (hres:res=rd1 gg (decide (d=8)) (x::pc b (i+1) j)):
 Calls prog 150 #[.slice a n c, .int .i64 i, .int .i64 j, .int .i64 d] w (FPost w i res):=by
 obtain⟨g,off,rfl,hc1,hc2,hc⟩:=ag_head h (by omega);unfold maxLen at hc2;have hcell:=hc i (by omega);rw[hx]at hcell;have hbl:=h.l;have hx256:=(h.b x (by rw[<-hx,List.getD,Ac (by omega)];exact Bo _)).2;have hlt:(i:Int)<j:=by omega
 have hin:(i:Int)<n:=by omega
 have hrl:=IM (b:=b) (i:=i+1) (j:=j) (by omega);have hrb:∀y∈pc b (i+1) j,0<=y/\y<256:=λy hy=>h.b y (WL hy);have hnd:¬(192<=x/\decide (d=8)=true):=by omega
 have hn128:¬x<128:=by omega
 obtain⟨N,hN⟩:∃N,nOf x=N:=⟨_,rfl⟩;have hNx:x-128=N:=by
  rw[<-hN];unfold nOf;rw[Ad (by omega)];omega
 have hN63:N<=63:=by omega
 have HX:=XaI hx;have HC:=XaI hc;have HA:=XaI h;have HRL:=XaI hrl;have HRB:=XaI hrb;have HND:=XaI hnd;have HN:=XaI hN;have HRES:=XaI hres
 skip
 clear hx hc h hrl hrb hnd hN hres hbl;go_enter func150,ntmps150
 go_upto_if 18 with fail
 have hbw:=(Rb.new w).bel;refine gen_w (p:=λv=>Code.wp _ _ _ _ v) (q:=Rb w) (Rb.new w) ?_;clear hbw;intro v R;replace hcell:=AM R.bel hcell;have x0:=R.x0;have x1:=R.x1;have x2:=R.x2;have xf:=R.xf;have HR:=XaI R;clear R;by_cases h58:N>58
 ·have h58i:(N:Int)>58:=by omega
  have hfin:res= .bad 23:=by rw[HRES.out];exact Fe (JZ HND.out hn128 (by rw[HN.out];omega) (Mg (by rw[HN.out];omega)) (by decide))
  subst hfin;go_wp2_with fail;have hr:=put3 HR.out.row (.bool false) (.slice none 0 0) (.slice none 0 0);refine Ao (Bd results150 _ _ w.heap.size _ _ _ rfl hr) rfl ?_;exact⟨Ce HR.out.bel (Aa _) _ _ _,rfl,by decide⟩
 have h58i:¬(N:Int)>58:=by omega
 go_upto_if 54 with fail
 go_cut [1,13] (λp q v'=>∃f L:Nat,p= .int .i64 (i+f:Nat)/\q= .int .i64 L/\Hd (decide (d=8)) x (pc b (i+1) j) f L/\v'=v)
 case first=>
  by_cases h55:N>55
  case neg=>
   have h55i:¬(N:Int)>55:=(by omega);go_wp2_with fail
   go_meet
   case rel=>
    have:=WM (r:=pc b (i+1) j) HND.out (by omega) (by rw[HN.out];omega);rw[HN.out]at this;exact⟨1,N,by simp,rfl,this,rfl⟩
  have h55i:(N:Int)>55:=by omega
  obtain⟨K,hK⟩:∃K,N=55+K:=⟨N-55,by omega⟩;subst hK;have hK3:K<=3:=by omega
  have hK1:1<=K:=by omega
  have hKi:((55+K:Nat):Int)-55=K:=by omega
  by_cases hsh:j-(i+1)<K
  ·have hshi:(j:Int)-(i+1)<K:=(by omega);have hfin:res= .bad 22:=(by rw[HRES.out];exact Fe (JZ HND.out hn128 (by rw[HN.out];omega) (K5 (by rw[HN.out];omega) (by rw[HN.out,HRL.out];omega)) (by decide)));subst hfin;go_wp2_with fail;have hr:=put3 HR.out.row (.bool false) (.slice none 0 0) (.slice none 0 0);refine Ao (Bd results150 _ _ w.heap.size _ _ _ rfl hr) rfl ?_;exact⟨Ce HR.out.bel (Aa _) _ _ _,rfl,by decide⟩
  have hshi:¬(j:Int)-(i+1)<K:=by omega
  go_wp2_with fail
  go_loopw [13,15] (λp q v'=>∃u:Nat,u<=K/\q= .int .i64 u/\p= .int .i64 (val ((pc b (i+1) j).take u):Nat)/\v'=v) (λ_ q _=>K-(intOf q).toNat)
  case atStart=>exact⟨0,by omega,rfl,rfl,rfl⟩
  case round=>
   obtain⟨u,hu,rfl,rfl,rfl⟩:=hrel;have hrl:=HRL.out;by_cases hlt2:u<K
   ·have hui:(u:Int)<K:=(by omega);have hcu:=AM HR.out.bel (HC.out (i+1+u) (by omega));rw[<-Rj (b:=b) (i:=i+1) (j:=j) (k:=u) (by omega) (by rw[HA.out.l];omega)]at hcu;obtain⟨v1,v2⟩:=DD HRB.out (j:=u) (by omega) (by omega);have v3:=DD HRB.out (j:=u+1) (by omega) (by omega);have hvs:=Lr (b:=pc b (i+1) j) (j:=u) (by omega);have hxx:=HRB.out ((pc b (i+1) j).getD u 0) (by rw[List.getD,Ac (by omega)];exact Bo _);obtain⟨q,hq⟩:∃q,val ((pc b (i+1) j).take u)=q:=⟨_,rfl⟩;obtain⟨z,hz⟩:∃z,(pc b (i+1) j).getD u 0=z:=⟨_,rfl⟩;rw[hq]at v1 hvs⊢;rw[hz]at hcu hxx hvs;obtain⟨hz0,hz1⟩:=hxx;rw[hvs]at v3;have hq2:q<65536:=(by omega);have HV:Hid (((val ((pc b (i+1) j).take (u+1)):Nat):Int)=256*q+z):=XaI (by omega);have hnn:(i:Int)+1+u<n:=(by omega);clear hvs v1 v2 v3 hq hz hrl;go_wp2_with fail;exact⟨⟨u+1,by omega,by simp,by rw[HV.out],trivial⟩,by simp[intOf];omega⟩
   ·have huK:u=K:=(by omega);subst huK;have hui:¬(u:Int)<u:=(by omega);obtain⟨v1,v2⟩:=DD HRB.out (j:=u) (by omega) (by omega);have hc0:=AM HR.out.bel (HC.out (i+1) (by omega));have hhd:(pc b (i+1) j).headD 0=b.getD (i+1) 0:=(by rw[J8 (by omega) (by rw[HA.out.l];omega)];rfl);have hz1:=HA.out.b (b.getD (i+1) 0) (by rw[List.getD,Ac (by rw[HA.out.l];omega)];exact Bo _);have hform:=λh=>Fe (g:=gg) (JZ HND.out (x:=x) (by omega) (by rw[HN.out];omega) (Mh (r:=pc b (i+1) j) (by rw[HN.out];omega) (by rw[HN.out,HRL.out];omega) h) (show 23≠0 by decide));have hmore:=SU (x:=x) HRB.out HND.out (by omega) (by rw[HN.out];omega) (by rw[HN.out];omega) (by rw[HN.out,HRL.out];omega);rw[<-HRES.out]at hform;rw[HN.out,show 55+u-55=u from by omega,hhd]at hform hmore;obtain⟨q,hq⟩:∃q,val ((pc b (i+1) j).take u)=q:=⟨_,rfl⟩;obtain⟨z,hz⟩:∃z,b.getD (i+1) 0=z:=⟨_,rfl⟩;rw[hq]at v1 hform hmore⊢;rw[hz]at hc0 hz1 hform hmore;have hq24:q<16777216:=(by omega);have hnn:(i:Int)+1<n:=(by omega);have HFO:=XaI hform;have HMO:=XaI hmore;clear hq hz hhd hrl v1 v2 hform hmore;by_cases hz0:z=0
    ·have hfin:res= .bad 23:=HFO.out (.inl hz0);subst hfin hz0;clear hz1;go_wp2_with fail;have hr:=put3 HR.out.row (.bool false) (.slice none 0 0) (.slice none 0 0);refine Ao (Bd results150 _ _ w.heap.size _ _ _ rfl hr) rfl ?_;exact⟨Ce HR.out.bel (Aa _) _ _ _,rfl,by decide⟩
    ·have hzb:(z==0)=false:=(by rw[BB];exact hz0);by_cases hq55:q<56
     ·have hfin:res= .bad 23:=HFO.out (.inr (by omega));have hqi:(q:Int)<56:=(by omega);subst hfin;go_wp2_with fail;have hr:=put3 HR.out.row (.bool false) (.slice none 0 0) (.slice none 0 0);refine Ao (Bd results150 _ _ w.heap.size _ _ _ rfl hr) rfl ?_;exact⟨Ce HR.out.bel (Aa _) _ _ _,rfl,by decide⟩
     ·have hqi:¬(q:Int)<56:=(by omega);have HMM:=XaI (HMO.out (by rintro(h|h);exact hz0 h;omega));go_wp2_with fail
      go_meet
      case rel=>exact⟨1+u,q,by simp;omega,rfl,HMM.out,rfl⟩
 case rest=>
  obtain⟨f,L,rfl,rfl,H,rfl⟩:=hcut;have heq:=H.eq;have hf1:=H.f1;have hf4:=H.f4;have hL24:=H.L24;have hiff:=H.iff;have hfle:=H.fle;rw[HRL.out]at heq hfle;have hpc:x::pc b (i+1) j=pc b i j:=by rw[J8 (b:=b) (i:=i) hij (by rw[HA.out.l];omega),HX.out]
  clear H hcell;by_cases hsh:(j-(i+1)+1)-f<L
  ·rw[Af hsh]at heq;have hfin:res= .bad 22:=(by rw[HRES.out];exact Fe heq);subst hfin;have hshi:(j:Int)-((i+f:Nat):Int)<L:=(by omega);clear heq hpc;go_wp2_with fail;have hr:=put3 HR.out.row (.bool false) (.slice none 0 0) (.slice none 0 0);refine Ao (Bd results150 _ _ w.heap.size _ _ _ rfl hr) rfl ?_;exact⟨Ce HR.out.bel (Aa _) _ _ _,rfl,by decide⟩
  rw[Ad hsh]at heq;have hshi:¬(j:Int)-((i+f:Nat):Int)<L:=by omega
  have hfjn:i+f+L<=j:=by omega
  have hri:=HRES.out;unfold rd1 at hri;rw[heq]at hri;simp only at hri;rw[hpc,WK (by omega)]at hri;have hhd:(pc b i j).headD 0=x:=by rw[<-hpc];rfl
  rw[hhd]at hri;have hsub:=Oe (HA.out.at HR.out.bel) (f:=i+f) (t:=i+(f+L)) (by omega) (by omega);rw[show i+(f+L)-(i+f)=L from by omega]at hsub;clear heq hhd hsh;rw[Af hhi]at hri;have hget:(pc b i j).getD 1 0=b.getD (i+1) 0∨¬(f=1/\f+L=2):=by
   by_cases h1:f=1/\f+L=2
   ·exact .inl (Rj (by omega) (by rw[HA.out.l];omega))
   ·exact .inr h1
  by_cases hone:f=1/\f+L=2/\(pc b i j).getD 1 0<128
  ·rw[Af hone]at hri;obtain⟨o1,o2,o3⟩:=hone;have oL:L=1:=(by omega);rw[hget.resolve_right (λh=>h ⟨o1,o2⟩)]at o3;subst o1 oL hri;have hc0:=AM HR.out.bel (HC.out (i+1) (by omega));have hz1:=(HA.out.b (b.getD (i+1) 0) (by rw[List.getD,Ac (by rw[HA.out.l];omega)];exact Bo _)).1;generalize b.getD (i+1) 0=z at*;have hnn:((i+1:Nat):Int)<n:=(by omega);clear hsub hget hpc hiff;go_wp2_with fail;have hr:=put3 HR.out.row (.bool false) (.slice none 0 0) (.slice none 0 0);refine Ao (Bd results150 _ _ w.heap.size _ _ _ rfl hr) rfl ?_;exact⟨Ce HR.out.bel (Aa _) _ _ _,rfl,by decide⟩
  rw[Ad hone]at hri;have HRI:=XaI hri;have hib:((i+f:Nat):Int)<=((i+f:Nat):Int)+L:=by omega
  have hib2:((i+f:Nat):Int)+L<=n:=by omega
  have hcz:¬L=1∨(L=1/\f=1/\¬b.getD (i+1) 0<128):=by
   by_cases hL1:L=1
   ·have hf:f=1:=hiff.2 (by omega);refine .inr ⟨hL1,hf,λh=>hone ⟨hf,by omega,?_⟩⟩;rw[hget.resolve_right (λh=>h ⟨hf,by omega⟩)];exact h
   ·exact .inl hL1
  have hcp:=Rh _ L _ _ _ hsub (by omega);have HCP:=XaI hcp;clear hcp;clear hri hone hget hsub hiff hpc;have hout:∀(a':Option Addr)(c':Nat)(w2:World),Ag w2 a' L c' (pc b (i+f) (i+(f+L)))->(∀g off,a'=some ⟨g,off,none⟩->wc.heap.size<=g/\∀o,w2.frozen? ⟨g,o,none⟩=false)->Below wc.heap.size wc w2->FPost w i res (.returned (.tuple #[.agg #[.bool false, .slice a' L c', .slice none 0 0], .int .i64 (((i+f:Nat):Int)+L), .int .i64 0])) (((w2.setCell ⟨w.heap.size,0,none⟩ (.bool false)).setCell ⟨w.heap.size,1,none⟩ (.slice a' L c')).setCell ⟨w.heap.size,2,none⟩ (.slice none 0 0)):=by
   intro a' c' w2 h1 h2 h3;rw[HRI.out];have hz:=HR.out.bel.size;have hz2:=lt_of_get HR.out.row;refine⟨Ce (below_go HR.out.bel h3) (Aa _) _ _ _,⟨false,a',L,c',none,0,0⟩,by simp;omega,?_⟩;refine liesP_eq.2 ⟨⟨rfl,Od h1 (λg off e _ _=>Dn (by have:=(h2 g off e).1;omega) _ _ _),rfl,Aa _,by show 0<=maxLen;unfold maxLen;omega,⟨by show L<=140737488351232;omega,by show 0<=140737488351232;omega⟩,λg off e _=>⟨Al hz (h2 g off e).1,λo=>by rw[Ei,Ei,Ei];exact(h2 g off e).2 o⟩⟩,Dp⟩
  have HOUT:=XaI hout;clear hout;clear x0 x1 x2 xf;rcases hcz with hL1|⟨rfl,rfl,hz128⟩
  ·have hLb:((L:Int)==1)=false:=(by rw[BB];omega);by_cases hck:c=i+f
   ·rw[Af hck]at HCP;subst hck;rw[Cx]at HCP;go_wp2_with fail;refine HCP.out.mono ?_;rintro e w2⟨⟨a',c',rfl,h1,h2⟩,h3⟩;have R2:=HR.out.call h3;have x0:=R2.x0;have x1:=R2.x1;have x2:=R2.x2;have xf:=R2.xf;have HFI:=XaI (HOUT.out a' c' w2 h1 h2 h3);have HR2:=XaI R2;clear R2 h1 h2 h3 HCP;go_wp2_with fail;have hr:=put3 HR2.out.row (.bool false) (.slice a' L c') (.slice none 0 0);refine Ao (Bd results150 _ _ w.heap.size _ _ _ rfl hr) rfl ?_;exact HFI.out
   ·rw[Ad hck]at HCP;go_wp2_with fail;refine HCP.out.mono ?_;rintro e w2⟨⟨a',c',rfl,h1,h2⟩,h3⟩;have R2:=HR.out.call h3;have x0:=R2.x0;have x1:=R2.x1;have x2:=R2.x2;have xf:=R2.xf;have HFI:=XaI (HOUT.out a' c' w2 h1 h2 h3);have HR2:=XaI R2;clear R2 h1 h2 h3 HCP;go_wp2_with fail;have hr:=put3 HR2.out.row (.bool false) (.slice a' L c') (.slice none 0 0);refine Ao (Bd results150 _ _ w.heap.size _ _ _ rfl hr) rfl ?_;exact HFI.out
  ·have hnn:((i+1:Nat):Int)<n:=(by omega);have hck:¬c=i+1:=(by omega);have hc0:=AM HR.out.bel (HC.out (i+1) (by omega));have hz1:=(HA.out.b (b.getD (i+1) 0) (by rw[List.getD,Ac (by rw[HA.out.l];omega)];exact Bo _));generalize b.getD (i+1) 0=z at*;have hz128:¬z<128:=hz128
   ·rw[Ad hck]at HCP;go_wp2_with fail;refine HCP.out.mono ?_;rintro e w2⟨⟨a',c',rfl,h1,h2⟩,h3⟩;have R2:=HR.out.call h3;have x0:=R2.x0;have x1:=R2.x1;have x2:=R2.x2;have xf:=R2.xf;have HFI:=XaI (HOUT.out a' c' w2 h1 h2 h3);have HR2:=XaI R2;clear R2 h1 h2 h3 HCP;go_wp2_with fail;have hr:=put3 HR2.out.row (.bool false) (.slice a' 1 c') (.slice none 0 0);refine Ao (Bd results150 _ _ w.heap.size _ _ _ rfl hr) rfl ?_;exact HFI.out
set_option maxRecDepth 20000 in
theorem PV(gg:List Int->R)(a:Option Addr)(n c i j d:Nat)(w:World)(b:List Int)(h:Ag w a n c b)(hn:n<=140737488351232)(hij:i<j)(hj:j<=n)(hd:d<=8)(x:Int)(hx:b.getD i 0=x)(hlo:192<=x)(hd8:d<8)
 (hitems:∀(a:Option Addr)(n c:Nat)(b:List Int)(w:World),Ag w a n c b->n<=140737488351232->∀i j:Nat,i<=j->j<=n->j-i<16777216->Calls prog 152 #[.slice a n c, .int .i64 i, .int .i64 j, .int .i64 (d+1:Nat)] w (GPost w j (rdAll gg (pc b i j).length (pc b i j))))
 (hgg:∀b t m,gg b= .ok t m->1<=m/\m<=b.length) (res:R)
 (hres:res=rd1 gg (decide (d=8)) (x::pc b (i+1) j)):
 Calls prog 150 #[.slice a n c, .int .i64 i, .int .i64 j, .int .i64 d] w (FPost w i res):=by
 obtain⟨g,off,rfl,hc1,hc2,hc⟩:=ag_head h (by omega);unfold maxLen at hc2;have hcell:=hc i (by omega);rw[hx]at hcell;have hbl:=h.l;have hx256:=(h.b x (by rw[<-hx,List.getD,Ac (by omega)];exact Bo _)).2;have hlt:(i:Int)<j:=by omega
 have hin:(i:Int)<n:=by omega
 have hrl:=IM (b:=b) (i:=i+1) (j:=j) (by omega);have hrb:∀y∈pc b (i+1) j,0<=y/\y<256:=λy hy=>h.b y (WL hy);have hnd:¬(192<=x/\decide (d=8)=true):=by simp;omega
 have hn128:¬x<128:=by omega
 obtain⟨N,hN⟩:∃N,nOf x=N:=⟨_,rfl⟩;have hNx:x-192=N:=by
  rw[<-hN];unfold nOf;rw[Af (by omega)];omega
 have hN63:N<=63:=by omega
 have HX:=XaI hx;have HC:=XaI hc;have HA:=XaI h;have HRL:=XaI hrl;have HRB:=XaI hrb;have HND:=XaI hnd;have HN:=XaI hN;have HRES:=XaI hres;have HIT:=XaI hitems;have HGG:=XaI hgg;clear hitems hgg;clear hx hc h hrl hrb hnd hN hres hbl;go_enter func150,ntmps150
 go_upto_if 18 with fail
 have hbw:=(Rb.new w).bel;refine gen_w (p:=λv=>Code.wp _ _ _ _ v) (q:=Rb w) (Rb.new w) ?_;clear hbw;intro v R;replace hcell:=AM R.bel hcell;have x0:=R.x0;have x1:=R.x1;have x2:=R.x2;have xf:=R.xf;have HR:=XaI R;clear R;by_cases h58:N>58
 ·have h58i:(N:Int)>58:=by omega
  have hfin:res= .bad 23:=by rw[HRES.out];exact Fe (JZ HND.out hn128 (by rw[HN.out];omega) (Mg (by rw[HN.out];omega)) (by decide))
  subst hfin;go_wp2_with fail;have hr:=put3 HR.out.row (.bool false) (.slice none 0 0) (.slice none 0 0);refine Ao (Bd results150 _ _ w.heap.size _ _ _ rfl hr) rfl ?_;exact⟨Ce HR.out.bel (Aa _) _ _ _,rfl,by decide⟩
 have h58i:¬(N:Int)>58:=by omega
 go_upto_if 54 with fail
 go_cut [1,13] (λp q v'=>∃f L:Nat,p= .int .i64 (i+f:Nat)/\q= .int .i64 L/\Hd (decide (d=8)) x (pc b (i+1) j) f L/\v'=v)
 case first=>
  by_cases h55:N>55
  case neg=>
   have h55i:¬(N:Int)>55:=(by omega);go_wp2_with fail
   go_meet
   case rel=>
    have:=WM (r:=pc b (i+1) j) HND.out (by omega) (by rw[HN.out];omega);rw[HN.out]at this;exact⟨1,N,by simp,rfl,this,rfl⟩
  have h55i:(N:Int)>55:=by omega
  obtain⟨K,hK⟩:∃K,N=55+K:=⟨N-55,by omega⟩;subst hK;have hK3:K<=3:=by omega
  have hK1:1<=K:=by omega
  have hKi:((55+K:Nat):Int)-55=K:=by omega
  by_cases hsh:j-(i+1)<K
  ·have hshi:(j:Int)-(i+1)<K:=(by omega);have hfin:res= .bad 22:=(by rw[HRES.out];exact Fe (JZ HND.out hn128 (by rw[HN.out];omega) (K5 (by rw[HN.out];omega) (by rw[HN.out,HRL.out];omega)) (by decide)));subst hfin;go_wp2_with fail;have hr:=put3 HR.out.row (.bool false) (.slice none 0 0) (.slice none 0 0);refine Ao (Bd results150 _ _ w.heap.size _ _ _ rfl hr) rfl ?_;exact⟨Ce HR.out.bel (Aa _) _ _ _,rfl,by decide⟩
  have hshi:¬(j:Int)-(i+1)<K:=by omega
  go_wp2_with fail
  go_loopw [13,15] (λp q v'=>∃u:Nat,u<=K/\q= .int .i64 u/\p= .int .i64 (val ((pc b (i+1) j).take u):Nat)/\v'=v) (λ_ q _=>K-(intOf q).toNat)
  case atStart=>exact⟨0,by omega,rfl,rfl,rfl⟩
  case round=>
   obtain⟨u,hu,rfl,rfl,rfl⟩:=hrel;have hrl:=HRL.out;by_cases hlt2:u<K
   ·have hui:(u:Int)<K:=(by omega);have hcu:=AM HR.out.bel (HC.out (i+1+u) (by omega));rw[<-Rj (b:=b) (i:=i+1) (j:=j) (k:=u) (by omega) (by rw[HA.out.l];omega)]at hcu;obtain⟨v1,v2⟩:=DD HRB.out (j:=u) (by omega) (by omega);have v3:=DD HRB.out (j:=u+1) (by omega) (by omega);have hvs:=Lr (b:=pc b (i+1) j) (j:=u) (by omega);have hxx:=HRB.out ((pc b (i+1) j).getD u 0) (by rw[List.getD,Ac (by omega)];exact Bo _);obtain⟨q,hq⟩:∃q,val ((pc b (i+1) j).take u)=q:=⟨_,rfl⟩;obtain⟨z,hz⟩:∃z,(pc b (i+1) j).getD u 0=z:=⟨_,rfl⟩;rw[hq]at v1 hvs⊢;rw[hz]at hcu hxx hvs;obtain⟨hz0,hz1⟩:=hxx;rw[hvs]at v3;have hq2:q<65536:=(by omega);have HV:Hid (((val ((pc b (i+1) j).take (u+1)):Nat):Int)=256*q+z):=XaI (by omega);have hnn:(i:Int)+1+u<n:=(by omega);clear hvs v1 v2 v3 hq hz hrl;go_wp2_with fail;exact⟨⟨u+1,by omega,by simp,by rw[HV.out],trivial⟩,by simp[intOf];omega⟩
   ·have huK:u=K:=(by omega);subst huK;have hui:¬(u:Int)<u:=(by omega);obtain⟨v1,v2⟩:=DD HRB.out (j:=u) (by omega) (by omega);have hc0:=AM HR.out.bel (HC.out (i+1) (by omega));have hhd:(pc b (i+1) j).headD 0=b.getD (i+1) 0:=(by rw[J8 (by omega) (by rw[HA.out.l];omega)];rfl);have hz1:=HA.out.b (b.getD (i+1) 0) (by rw[List.getD,Ac (by rw[HA.out.l];omega)];exact Bo _);have hform:=λh=>Fe (g:=gg) (JZ HND.out (x:=x) (by omega) (by rw[HN.out];omega) (Mh (r:=pc b (i+1) j) (by rw[HN.out];omega) (by rw[HN.out,HRL.out];omega) h) (show 23≠0 by decide));have hmore:=SU (x:=x) HRB.out HND.out (by omega) (by rw[HN.out];omega) (by rw[HN.out];omega) (by rw[HN.out,HRL.out];omega);rw[<-HRES.out]at hform;rw[HN.out,show 55+u-55=u from by omega,hhd]at hform hmore;obtain⟨q,hq⟩:∃q,val ((pc b (i+1) j).take u)=q:=⟨_,rfl⟩;obtain⟨z,hz⟩:∃z,b.getD (i+1) 0=z:=⟨_,rfl⟩;rw[hq]at v1 hform hmore⊢;rw[hz]at hc0 hz1 hform hmore;have hq24:q<16777216:=(by omega);have hnn:(i:Int)+1<n:=(by omega);have HFO:=XaI hform;have HMO:=XaI hmore;clear hq hz hhd hrl v1 v2 hform hmore;by_cases hz0:z=0
    ·have hfin:res= .bad 23:=HFO.out (.inl hz0);subst hfin hz0;clear hz1;go_wp2_with fail;have hr:=put3 HR.out.row (.bool false) (.slice none 0 0) (.slice none 0 0);refine Ao (Bd results150 _ _ w.heap.size _ _ _ rfl hr) rfl ?_;exact⟨Ce HR.out.bel (Aa _) _ _ _,rfl,by decide⟩
    ·have hzb:(z==0)=false:=(by rw[BB];exact hz0);by_cases hq55:q<56
     ·have hfin:res= .bad 23:=HFO.out (.inr (by omega));have hqi:(q:Int)<56:=(by omega);subst hfin;go_wp2_with fail;have hr:=put3 HR.out.row (.bool false) (.slice none 0 0) (.slice none 0 0);refine Ao (Bd results150 _ _ w.heap.size _ _ _ rfl hr) rfl ?_;exact⟨Ce HR.out.bel (Aa _) _ _ _,rfl,by decide⟩
     ·have hqi:¬(q:Int)<56:=(by omega);have HMM:=XaI (HMO.out (by rintro(h|h);exact hz0 h;omega));go_wp2_with fail
      go_meet
      case rel=>exact⟨1+u,q,by simp;omega,rfl,HMM.out,rfl⟩
 case rest=>
  obtain⟨f,L,rfl,rfl,H,rfl⟩:=hcut;have heq:=H.eq;have hf1:=H.f1;have hf4:=H.f4;have hL24:=H.L24;have hiff:=H.iff;have hfle:=H.fle;rw[HRL.out]at heq hfle;have hpc:x::pc b (i+1) j=pc b i j:=by rw[J8 (b:=b) (i:=i) hij (by rw[HA.out.l];omega),HX.out]
  clear H hcell;by_cases hsh:(j-(i+1)+1)-f<L
  ·rw[Af hsh]at heq;have hfin:res= .bad 22:=(by rw[HRES.out];exact Fe heq);subst hfin;have hshi:(j:Int)-((i+f:Nat):Int)<L:=(by omega);clear heq hpc;go_wp2_with fail;have hr:=put3 HR.out.row (.bool false) (.slice none 0 0) (.slice none 0 0);refine Ao (Bd results150 _ _ w.heap.size _ _ _ rfl hr) rfl ?_;exact⟨Ce HR.out.bel (Aa _) _ _ _,rfl,by decide⟩
  rw[Ad hsh]at heq;have hshi:¬(j:Int)-((i+f:Nat):Int)<L:=by omega
  have hfjn:i+f+L<=j:=by omega
  have hri:=HRES.out;unfold rd1 at hri;rw[heq]at hri;simp only at hri;rw[hpc,WK (by omega)]at hri;have hhd:(pc b i j).headD 0=x:=by rw[<-hpc];rfl
  rw[hhd]at hri;have hsub:=Oe (HA.out.at HR.out.bel) (f:=i+f) (t:=i+(f+L)) (by omega) (by omega);rw[show i+(f+L)-(i+f)=L from by omega]at hsub;clear heq hhd hsh;rw[Ad (by omega)]at hri;have hit:=HIT.out _ n c b wc (HA.out.at HR.out.bel) hn (i+f) (i+(f+L)) (by omega) (by omega) (by omega);rw[show((i+(f+L):Nat):Int)=((i+f:Nat):Int)+L from by omega,show((d+1:Nat):Int)=(d:Int)+1 from by omega]at hit;have hln:=λts h=>Ii HGG.out (pc b (i+f) (i+(f+L))).length (pc b (i+f) (i+(f+L))) ts h;rw[IM (by rw[HA.out.l];omega)]at hln;have HLN:=XaI hln;have HIC:=XaI hit;have HRI:=XaI hri;clear hit hri hsub hiff hpc HIT hln x0 x1 x2 xf;go_wp2_with fail;refine HIC.out.mono ?_;rintro e w2⟨h3,hm⟩;have R2:=HR.out.call h3;have x0:=R2.x0;have x1:=R2.x1;have x2:=R2.x2;have xf:=R2.xf;have HR2:=XaI R2;have H3:=XaI h3;have hz:=HR.out.bel.size;have hz2:=lt_of_get HR.out.row;clear R2 h3 HIC;cases hr:rdAll gg (pc b (i+f) (i+(f+L))).length (pc b (i+f) (i+(f+L)))with
  |bad er=>
   rw[hr]at hm;obtain⟨rfl,her⟩:=hm;have hfin:=HRI.out;rw[hr]at hfin;simp only at hfin;subst hfin;clear hr;go_wp2_with fail;have hr:=put3 HR2.out.row (.bool false) (.slice none 0 0) (.slice none 0 0);refine Ao (Bd results150 _ _ w.heap.size _ _ _ rfl hr) rfl ?_;exact⟨Ce HR2.out.bel (Aa _) _ _ _,rfl,her⟩
  |ok ts=>
   rw[hr]at hm;obtain⟨ia,ic,rfl,q1,q2,q3⟩:=hm;have hfin:=HRI.out;rw[hr]at hfin;simp only at hfin;subst hfin;have htl:=HLN.out ts (by rw[IM (by rw[HA.out.l];omega)]at hr;exact hr);have HQ:=XaI q3;clear hr q3;go_wp2_with fail;have hr:=put3 HR2.out.row (.bool true) (.slice none 0 0) (.slice ia ts.length ic);refine Ao (Bd results150 _ _ w.heap.size _ _ _ rfl hr) rfl ?_;refine⟨Ce HR2.out.bel (Aa _) _ _ _,⟨true,none,0,0,ia,ts.length,ic⟩,by simp,?_⟩;refine IC q1 q2 (by omega) (DK (λb(hb:wc.heap.size<=b) hlt=>⟨Dn (by omega) _ _ _,by omega⟩) (λu _=>Bz (λb(hb:wc.heap.size<=b) hlt=>⟨Dn (by omega) _ _ _,by omega⟩) u) HQ.out)
theorem U1{N:Nat}{u v:World}(h:Below N u v){g o t:Nat}{cs:Array Value}(hg:g<N)(hu:u.heap[g]?=some (.cells cs t))(x:Value):Below N (u.setCell ⟨g,o,none⟩ x) (v.setCell ⟨g,o,none⟩ x):=by
 have hgb:=(h.block g hg).trans hu;refine⟨h.os,h.tape,h.output,by simpa using h.size,λk hk=>?_⟩;by_cases e:k=g
 ·subst e;rw[AN u k o _ t x hu,AN v k o _ t x hgb]
 ·rw[A8 _ _ _ _ e,A8 _ _ _ _ e];exact h.block k hk
structure Ib(w v U:World)(it:Value)(ts:List T)(ys:List V):Prop where
 sz:U.heap.size=w.heap.size+2
 res:U.heap[w.heap.size]?=some (.cells #[.bool false, .slice none 0 0, .slice none 0 0] 110)
 box:U.heap[w.heap.size+1]?=some (.cells #[.bool true, .slice none 0 0,it] 110)
 bw:Below w.heap.size w U
 bel:Below U.heap.size U v
 own:OwnI v U.heap.size it ys
 all:AllP (λb=>U.heap.size<=b/\it.ownBlock≠some b) v ts ys
theorem ZV(w:World):Ib w ((w.alloc (.cells #[.bool false, .slice none 0 0, .slice none 0 0] 110)).alloc (.cells #[.bool true, .slice none 0 0, .slice none 0 0] 110)) ((w.alloc (.cells #[.bool false, .slice none 0 0, .slice none 0 0] 110)).alloc (.cells #[.bool true, .slice none 0 0, .slice none 0 0] 110)) (.slice none 0 0) [] []:=
 ⟨by simp,(Au _ _ _ (by simp)).trans (Ai _ _),heap_alloc2_new _ _ _,((Ak _ _).alloc (Aa _) _).alloc (by simp) _,Ak _ _,Dk _ _ _ _,trivial⟩
theorem YB{v:World}{it:Value}{t:T}(h:Ib w v U it ts ys)(hb1:Below v.heap.size v w1)(hy:LiesP (λb=>v.heap.size<=b) w1 t y)(hlen:ys.length<=1000000000)(ty:TypeId):
 ∃it' w3,(Builtin.append_ #[108,108] ty #[it, .slice (some ⟨w1.heap.size+1,0,none⟩) 1 1]).run prog ((w1.alloc (.cells #[.bool y.l, .slice y.ba y.bn y.bc, .slice y.ia y.m y.ic] 110)).alloc (.cells #[.bool y.l, .slice y.ba y.bn y.bc, .slice y.ia y.m y.ic] 110))= .ok it' w3/\
  Below U.heap.size U w3/\Ib w (w3.setCell ⟨w.heap.size+1,2,none⟩ it') (U.setCell ⟨w.heap.size+1,2,none⟩ it') it' (ts++[t]) (ys++[y]):=by
 obtain⟨it',w3,hrun,s1,s2,s3⟩:=L4 h.own h.all h.bel hb1 hy hlen ty;have hs:=h.sz;refine⟨it',w3,hrun,s3,⟨by simpa using hs,(A8 _ _ _ _ (show w.heap.size≠w.heap.size+1 by omega)).trans h.res,?_,h.bw.setCell (by simp) _,?_,?_,?_⟩⟩
 ·have:=AN U (w.heap.size+1) 2 _ 110 it' h.box;simpa using this
 ·have:=U1 s3 (g:=w.heap.size+1) (o:=2) (by omega) h.box it';simpa using this
 ·have e:(U.setCell ⟨w.heap.size+1,2,none⟩ it').heap.size=U.heap.size:=by simp
  rw[e];exact DZ s1 (λg hg _=>A8 _ _ _ _ (show g≠w.heap.size+1 by have:=(EX s1 hg).1;omega))
 ·have e:(U.setCell ⟨w.heap.size+1,2,none⟩ it').heap.size=U.heap.size:=by simp
  rw[e];exact s2.mono λb hb _=>⟨A8 _ _ _ _ (show b≠w.heap.size+1 by have:=hb.1;omega),hb⟩
theorem U2{v:Value}(h:OwnI w base v ys):∃a n c,v= .slice a n c:=by
 rcases h.2 with⟨h2,_⟩|⟨g,cap,cur,hv,_⟩
 ·exact⟨_,_,_,h2⟩
 ·exact⟨_,_,_,hv⟩
theorem Ib.cells{v:World}{it:Value}(h:Ib w v U it ts ys)(hb:Below U.heap.size U v'):
 (∀o,v'.frozen? ⟨w.heap.size,o,none⟩=false)/\(∀o,v'.frozen? ⟨w.heap.size+1,o,none⟩=false)/\v'.cell? ⟨w.heap.size,0,none⟩=some (.bool false)/\v'.cell? ⟨w.heap.size,1,none⟩=some (.slice none 0 0)/\v'.cell? ⟨w.heap.size,2,none⟩=some (.slice none 0 0)/\v'.cell? ⟨w.heap.size+1,0,none⟩=some (.bool true)/\v'.cell? ⟨w.heap.size+1,1,none⟩=some (.slice none 0 0)/\v'.cell? ⟨w.heap.size+1,2,none⟩=some it:=by
 have r1:=Below.row hb h.res;have r2:=Below.row hb h.box;exact⟨λo=>AL _ _ _ _ _ r1,λo=>AL _ _ _ _ _ r2,by rw[Ae _ _ _ _ _ _ r1];rfl,by rw[Ae _ _ _ _ _ _ r1];rfl,by rw[Ae _ _ _ _ _ _ r1];rfl,by rw[Ae _ _ _ _ _ _ r2];rfl,by rw[Ae _ _ _ _ _ _ r2];rfl,by rw[Ae _ _ _ _ _ _ r2];rfl⟩
theorem Rn(k:Nat)(hfirst:FSaid k)(a:Option Addr)(n c:Nat)(b:List Int)(w:World)(h:Ag w a n c b)(hn:n<=140737488351232)(i j d:Nat)(hij:i<=j)(hj:j<=n)(hl:j-i<16777216)(hd:d+k=8):
 Calls prog 152 #[.slice a n c, .int .i64 i, .int .i64 j, .int .i64 d] w (GPost w j (rdAll (rd k) (pc b i j).length (pc b i j))):=by
 have HF:=XaI hfirst;have HA:=XaI h;obtain⟨res,hres⟩:∃r,rdAll (rd k) (pc b i j).length (pc b i j)=r:=⟨_,rfl⟩;rw[hres];have HRES:=XaI hres;clear hfirst h hres;go_enter func152,ntmps152;go_wp2_with fail
 go_loopw [1] (λp v=>∃(q:Nat)(U:World)(it:Value)(ts:List T)(ys:List V),p= .int .i64 q/\i<=q/\q<=j/\ts.length<=q-i/\res=RL.pre ts (rdAll (rd k) (pc b q j).length (pc b q j))/\Ib w v U it ts ys) (λp _=>j-(intOf p).toNat)
 case atStart=>exact⟨i,_,_,[],[],rfl,Aa _,hij,by simp,by rw[Ss];exact HRES.out.symm,ZV w⟩
 case round=>
  obtain⟨q,U,it,ts,ys,rfl,hiq,hqj,htl,hpre,H⟩:=hrel;obtain⟨f1,f2,c0,c1,c2,e0,e1,e2⟩:=H.cells H.bel;have HH:=XaI H;have HP:=XaI hpre;clear H hpre;by_cases hlt:q<j
  ·have hqi:(q:Int)<j:=(by omega);have hcal:=HF.out a n c b wr (HA.out.at (below_go HH.out.bw HH.out.bel)) hn q j d (by omega) hj hd;have HC:=XaI hcal;clear hcal;go_wp2_with fail;refine HC.out.mono ?_;rintro e w1⟨hb1,hm⟩;cases hr:rd k (pc b q j)with
   |bad er=>
    rw[hr]at hm;obtain⟨rfl,her⟩:=hm;have hne:pc b q j≠[]:=by
     intro e;have:=IM (b:=b) (i:=q) (j:=j) (by rw[HA.out.l];omega);rw[e]at this;simp at this;omega
    have hfin:res= .bad er:=by
     rw[HP.out];obtain⟨u,hu⟩:∃u,(pc b q j).length=u+1:=⟨(pc b q j).length-1,by have:=BC.2 hne;omega⟩;rw[hu,FA hne hr];rfl
    subst hfin;have hee:((er:Int) !=0)=true:=(by rw[BL];omega);have hb2:=below_go HH.out.bel (below_go hb1 (below_new w1 (.cells #[.bool false, .slice none 0 0, .slice none 0 0] 110)));obtain⟨f1,f2,c0,c1,c2,e0,e1,e2⟩:=HH.out.cells hb2;have HB2:=XaI (below_go HH.out.bw hb2);have HRW:=XaI (Below.row hb2 HH.out.res);clear hb1 hb2 hr hne HC;go_wp2_with fail;have hr:=put3 HRW.out (.bool false) (.slice none 0 0) (.slice none 0 0);refine Ao (Bd results152 _ _ w.heap.size _ _ _ rfl hr) rfl ?_;exact⟨Ce HB2.out (Aa _) _ _ _,rfl,her⟩
   |ok t m=>
    rw[hr]at hm;obtain⟨y,rfl,hy⟩:=hm;have hmn:=OV hr;rw[IM (by rw[HA.out.l];omega)]at hmn;have hyl:ys.length<=1000000000:=(by have:=HH.out.all.len;omega);obtain⟨it',w3,hrun,s3,I2⟩:=YB HH.out hb1 hy hyl 108;obtain⟨ia',n',ic',rfl⟩:=U2 I2.own;have hne:pc b q j≠[]:=by
     intro e;have:=IM (b:=b) (i:=q) (j:=j) (by rw[HA.out.l];omega);rw[e]at this;simp at this;omega
    have hpre:=Pc (f:=rd k) (ts:=ts) (λb t m h=>(OV h).1) hne hr;have hdrop:(pc b q j).drop m=pc b (q+m) j:=(by unfold pc;rw[List.drop_drop]);rw[hdrop,<-HP.out]at hpre;have hb2:=below_go HH.out.bel (below_go hb1 (below_new w1 (.cells #[.bool y.l, .slice y.ba y.bn y.bc, .slice y.ia y.m y.ic] 110)));have hb3:=below_go hb2 (below_new _ (.cells #[.bool y.l, .slice y.ba y.bn y.bc, .slice y.ia y.m y.ic] 110));obtain⟨f1,f2,c0,c1,c2,e0,e1,e2⟩:=HH.out.cells hb2;obtain⟨g1,g2,d0,d1,d2,h0,h1,h2⟩:=HH.out.cells s3;have HRUN:=XaI hrun;have HI2:=XaI I2;have HPP:=XaI hpre;clear hb1 hb2 hb3 hr hne HC hy hrun s3 I2 hpre hdrop;go_wp2_with (first|refine Er rfl _ _ rfl _ _ rfl rfl HRUN.out ?_);refine⟨⟨q+m,_,_,ts++[t],ys++[y],by simp,by omega,by omega,by rw[Ab];simp;omega,HPP.out,HI2.out⟩,by simp[intOf];omega⟩
  ·have hqe:q=j:=(by omega);subst hqe;have hqi:¬(q:Int)<q:=(by omega);have hfin:=HP.out;rw[WJ (Aa _),EW]at hfin;simp only[RL.pre,Az]at hfin;subst hfin;obtain⟨ia,ic,hit,q1,q2,q3⟩:=L3 (P:=λb=>U.heap.size<=b) HH.out.own (HH.out.all.mono λb hb _=>⟨rfl,hb.1⟩) (λg hg=>(EX HH.out.own hg).1);subst hit;have HQ:=XaI q3;clear q3;go_wp2_with fail;have hr:=put3 (Below.row HH.out.bel HH.out.res) (.bool true) (.slice none 0 0) (.slice ia ts.length ic);refine Ao (Bd results152 _ _ w.heap.size _ _ _ rfl hr) rfl ?_;have hs:=HH.out.sz;refine⟨Ce (below_go HH.out.bw HH.out.bel) (Aa _) _ _ _,ia,ic,rfl,q1,q2,?_⟩;exact DK (λb(hb:U.heap.size<=b) hlt=>⟨Dn (by omega) _ _ _,by omega⟩) (λu _=>Bz (λb(hb:U.heap.size<=b) hlt=>⟨Dn (by omega) _ _ _,by omega⟩) u) HQ.out
end Go.Proofs.YtalhnnjpjaeakaaGreat
