/- Rows of items of which the last may lie in memory that is not the call's own. -/
import Derived.Test.YtefhepcplempkaaGreatAK
import Derived.Test.YtefhepcplempkaaGreatG19
import Derived.Test.YtefhepcplempkaaGreatG13
import Derived.Test.YtefhepcplempkaaGreatG06
import Derived.Deep.CutRange
set_option linter.unusedVariables false
set_option maxRecDepth 100000
set_option maxHeartbeats 4000000
open Go.Proofs.Tryz Go.RowKit
namespace Go.Proofs.YtefhepcplempkaaGreat
variable {w w0 w1 v' U : World} {base k gI c i j : Nat} {ys : List V} {ts : List T} {y : V} {x : NV} {b r : List Int} {deep : Bool} {g : List Int → R}
def AllL(w:World):List T->List V->Prop
 |[],[]=>True
 |t::ts,y::ys=>Lies w t y/\AllL w ts ys
 |_,_=>False
theorem AllL.len{w:World}:∀{ts:List T}{ys:List V},AllL w ts ys->ts.length=ys.length
 |[],[],_=>rfl
 |t::ts,y::ys,h=>by have:=AllL.len h.2;simp[this]
theorem AllP.lies{P:Nat->Prop}{w:World}:∀{ts:List T}{ys:List V},AllP P w ts ys->AllL w ts ys
 |[],[],_=>trivial
 |t::ts,y::ys,h=>⟨Dj t y h.1,AllP.lies h.2⟩
theorem AllL.snoc{w:World}{t:T}{y:V}(h1:Lies w t y):∀{ts:List T}{ys:List V},AllL w ts ys->AllL w (ts++[t]) (ys++[y])
 |[],[],_=>⟨h1,trivial⟩
 |_::ts,_::ys,h=>⟨h.1,AllL.snoc h1 h.2⟩
theorem Nm{w:World}{g:Nat}{all:List V}(hc:∀j u,(all.flatMap V.cells)[j]?=some u->w.cell? ((⟨g,0,none⟩:Addr).add j)=some u):
 ∀(ts:List T)(ys pre:List V),all=pre++ys->AllL w ts ys->LiesAll w ts (some ⟨g,0,none⟩) pre.length
 |[],[],pre,_,_=>DD
 |t::ts,y::ys,pre,e,h=>by
  have hr:=Nm hc ts ys (pre++[y]) (by rw[e];simp) h.2;rw[Ab]at hr;refine liesAll_cons.2 ⟨⟨g,0,y,rfl,?_,?_,?_,h.1⟩,hr⟩
  ·have:=hc (pre.length*3+0) (.bool y.l) (by rw[e];exact FC pre y ys 0 _ rfl);rw[BO]at this;simpa using this
  ·have:=hc (pre.length*3+1) (.slice y.ba y.bn y.bc) (by rw[e];exact FC pre y ys 1 _ rfl);rw[BO]at this;rw[show 0+pre.length*3+1=0+(pre.length*3+1)from by omega];exact this
  ·have:=hc (pre.length*3+2) (.slice y.ia y.m y.ic) (by rw[e];exact FC pre y ys 2 _ rfl);rw[BO]at this;rw[show 0+pre.length*3+2=0+(pre.length*3+2)from by omega];exact this
theorem Kj{v:Value}(hown:OwnI w base v ys)(h:AllL w ts ys):
 ∃ia ic,v= .slice ia ts.length ic/\ts.length<=ic/\ic<=maxLen/\LiesAll w ts ia 0:=by
 have hl:=h.len;rcases hown.2 with⟨rfl,hn0⟩|⟨g,cap,cur,rfl,hbg,hg,hnc,hcm,hcs,htake⟩
 ·have:ts=[]:=A3 (by omega);subst this;exact⟨none,0,rfl,Aa _,by unfold maxLen;omega,DD⟩
 ·exact⟨some ⟨g,0,none⟩,cap,by rw[hl],by omega,hcm,Nm (DZ hown (g:=g) rfl) ts ys [] rfl h⟩
theorem QR{wr:World}{it:Value}{t:T}(hb0:Below w0.heap.size w0 w)(hown:OwnI wr w.heap.size it ys)(hall:AllP (λb=>w.heap.size<=b/\it.ownBlock≠some b) wr ts ys)(hbel:Below w.heap.size w wr)(hb1:Below wr.heap.size wr w1)
 (hy:Lies w0 t y) (hlen:ys.length<=1000000000) (ty:TypeId):
 ∃v' w3,(Builtin.append_ #[107,107] ty #[it, .slice (some ⟨w1.heap.size,0,none⟩) 1 1]).run prog (w1.alloc (.cells #[.bool y.l, .slice y.ba y.bn y.bc, .slice y.ia y.m y.ic] 109))= .ok v' w3/\
  Below w.heap.size w w3/\w1.heap.size<=w3.heap.size/\
  ∃ia ic,v'= .slice ia (ts.length+1) ic/\ts.length+1<=ic/\ic<=maxLen/\∀w4,w3.heap.size<=w4.heap.size->(∀b,w.heap.size<=b->b<w3.heap.size->w4.heap[b]?=w3.heap[b]?)->Below w0.heap.size w0 w4->LiesAll w4 (ts++[t]) ia 0:=by
 obtain⟨Y,hY⟩:∃Y:Obj,Obj.cells #[.bool y.l, .slice y.ba y.bn y.bc, .slice y.ia y.m y.ic] 109=Y:=⟨_,rfl⟩;rw[hY];have hs2:(w1.alloc Y).heap.size=w1.heap.size+1:=by simp
 have hb2:Below wr.heap.size wr (w1.alloc Y):=hb1.alloc hb1.size _;have hz:=hbel.size;have hz1:=hb1.size;have hblk:(w1.alloc Y).heap[w1.heap.size]?=some Y:=Aj w1 Y;have hnews:∀j u,(V.cells y)[j]?=some u->(w1.alloc Y).cell? ((⟨w1.heap.size,0,none⟩:Addr).add j)=some u:=by
  intro j u hu;rw[BO,AM];rw[<-hY]at hblk⊢;rw[Ad _ _ _ _ _ _ hblk];simpa[V.cells]using hu
 obtain⟨v',w3,hrun,hown3,hgr,hown4⟩:=Jq (Em hown λg _ hg=>hb2.block g hg) y _ 1 hnews (by omega) hlen ty;have hfar:∀b,b<w1.heap.size+1->it.ownBlock≠some b->w3.heap[b]?=(w1.alloc Y).heap[b]?:=λb hb hne=>hgr.block b (by rw[hs2];exact hb) (λh=>hne h.symm);have hz3:w1.heap.size<=w3.heap.size:=by have:=hgr.size;omega
 have hB3:Below w.heap.size w w3:=by
  refine hbel.trans ⟨hgr.os.trans hb2.os,hgr.tape.trans hb2.tape,hgr.output.trans hb2.output,Ar hb2.size hgr.size,λb hb=>?_⟩;rw[hfar b (by omega) (λh=>by have:=(Fs hown h).1;omega)];exact hb2.block b (by omega)
 have hall3:AllP (λb=>w.heap.size<=b) w3 ts ys:=hall.mono λb hb hlt=>⟨by rw[hfar b (by omega) hb.2];exact hb2.block b hlt,hb.1⟩;refine⟨v',w3,hrun,hB3,hz3,?_⟩;have key:∀w4,w3.heap.size<=w4.heap.size->(∀b,w.heap.size<=b->b<w3.heap.size->w4.heap[b]?=w3.heap[b]?)->Below w0.heap.size w0 w4->∃ia ic,v'= .slice ia (ts++[t]).length ic/\(ts++[t]).length<=ic/\ic<=maxLen/\LiesAll w4 (ts++[t]) ia 0:=λw4 h1 h2 h3=>
  Kj (Em hown3 λg hg hlt=>h2 g (Fs hown3 hg).1 hlt) (AllL.snoc (Ci h3 t y hy) (AllP.lies (P:=λb=>w.heap.size<=b) (hall3.mono λb hb hlt=>⟨h2 b hb hlt,hb⟩)))
 obtain⟨ia,ic,e1,e2,e3,_⟩:=key w3 (Aa _) (λ_ _ _=>rfl) (below_go hb0 hB3);rw[Ab]at e1 e2;refine⟨ia,ic,e1,e2,e3,λw4 h1 h2 h3=>?_⟩;obtain⟨ia',ic',e1',_,_,hl⟩:=key w4 h1 h2 h3;rw[e1,Ab]at e1';injection e1' with q1 q2 q3;rw[q1];exact hl
def trunc(base:Nat)(w:World):World:={w with heap:=w.heap.take base}
theorem Ja(h:base<=w.heap.size):(trunc base w).heap.size=base:=by
 show(w.heap.take base).size=base;simp;omega
theorem Iq(h:k<base):(trunc base w).heap[k]?=w.heap[k]?:=by
 show(w.heap.take base)[k]?=w.heap[k]?;rw[Array.take_eq_extract,Array.getElem?_extract];by_cases hk:k<w.heap.size
 ·rw[Ai (by omega),AM]
 ·rw[Ae (by omega),Array.getElem?_eq_none (by omega)]
theorem KI(h:base<=w.heap.size):Below base (trunc base w) w:=⟨rfl,rfl,rfl,by rw[Ja h];exact h,λk hk=>(Iq hk).symm⟩
theorem KJ{w':World}(h:base<=w.heap.size)(hz:w.heap.size<=w'.heap.size)(hb:Below base (trunc base w) w'):Below base w w':=⟨hb.os,hb.tape,hb.output,hz,λk hk=>(hb.block k hk).trans (Iq hk)⟩
theorem QS{wr:World}{it:Value}{t:T}(hz:base<=wr.heap.size)(hown:OwnI wr base it ys)(hall:AllP (λb=>base<=b/\it.ownBlock≠some b) wr ts ys)(hb1:Below wr.heap.size wr w1)
 (hy:LiesP (λb=>wr.heap.size<=b) w1 t y) (hlen:ys.length<=1000000000) (ty:TypeId):
 ∃v' w3,(Builtin.append_ #[107,107] ty #[it, .slice (some ⟨w1.heap.size,0,none⟩) 1 1]).run prog (w1.alloc (.cells #[.bool y.l, .slice y.ba y.bn y.bc, .slice y.ia y.m y.ic] 109))= .ok v' w3/\
  OwnI w3 base v' (ys++[y])/\AllP (λb=>base<=b/\v'.ownBlock≠some b) w3 (ts++[t]) (ys++[y])/\Below base wr w3:=by
 have hs:=Ja hz;obtain⟨v',w3,h1,h2,h3,h4,_,h6⟩:=Kb (w:=trunc base wr) (wr:=wr) (w1:=w1) (by rw[hs];exact hown) (by rw[hs];exact hall) (by rw[hs];exact KI hz) hb1 hy hlen ty;rw[hs]at h2 h3 h4;exact⟨v',w3,h1,h2,h3,KJ hz (by have:=hb1.size;omega) h4⟩
theorem P6{wr:World}{it:Value}{t:T}(hz0:w0.heap.size<=base)(hb0:Below w0.heap.size w0 wr)(hz:base<=wr.heap.size)(hown:OwnI wr base it ys)(hall:AllP (λb=>base<=b/\it.ownBlock≠some b) wr ts ys)(hb1:Below wr.heap.size wr w1)
 (hy:Lies w0 t y) (hlen:ys.length<=1000000000) (ty:TypeId):
 ∃v' w3,(Builtin.append_ #[107,107] ty #[it, .slice (some ⟨w1.heap.size,0,none⟩) 1 1]).run prog (w1.alloc (.cells #[.bool y.l, .slice y.ba y.bn y.bc, .slice y.ia y.m y.ic] 109))= .ok v' w3/\
  Below base wr w3/\
  ∃ia ic,v'= .slice ia (ts.length+1) ic/\ts.length+1<=ic/\ic<=maxLen/\∀w4,w3.heap.size<=w4.heap.size->(∀b,base<=b->b<w3.heap.size->w4.heap[b]?=w3.heap[b]?)->Below w0.heap.size w0 w4->LiesAll w4 (ts++[t]) ia 0:=by
 have hs:=Ja hz;have hb0':Below w0.heap.size w0 (trunc base wr):=⟨hb0.os,hb0.tape,hb0.output,by rw[hs];exact hz0,λk hk=>(Iq (by omega)).trans (hb0.block k hk)⟩;obtain⟨v',w3,h1,h2,h3,h4⟩:=QR (w:=trunc base wr) (wr:=wr) (w1:=w1) hb0' (by rw[hs];exact hown) (by rw[hs];exact hall) (by rw[hs];exact KI hz) hb1 hy hlen ty;rw[hs]at h2 h4;exact⟨v',w3,h1,KJ hz (by have:=hb1.size;omega) h2,h4⟩
structure En(w v:World)(x:NV)(gI:Nat)(it:Value):Prop where
 row:v.heap[gI]?=some (.cells #[.bool true, .slice none 0 0,it] 109)
 bx:NBx w.heap.size v x
 bel:Below w.heap.size w v
 gi:w.heap.size<gI
 sz:gI+1<=v.heap.size
theorem En.go{v:World}{it:Value}(h:En w v x gI it)(hb:Below (gI+1) v v'):En w v' x gI it:=
 ⟨(hb.block gI (by omega)).trans h.row,⟨(hb.block _ (by have:=h.gi;omega)).trans h.bx.row,h.bx.l⟩,
   ⟨hb.os.trans h.bel.os,hb.tape.trans h.bel.tape,hb.output.trans h.bel.output,Ar h.bel.size hb.size,λk hk=>(hb.block k (by have:=h.gi;omega)).trans (h.bel.block k hk)⟩,h.gi,Ar h.sz hb.size⟩
theorem En.all{v:World}{it:Value}(h:En w v x gI it)(hb:Below v.heap.size v v'):En w v' x gI it:=h.go ⟨hb.os,hb.tape,hb.output,hb.size,λk hk=>hb.block k (by have:=h.sz;omega)⟩
theorem En.c0{v:World}{it:Value}(h:En w v x gI it):v.cell? ⟨gI,0,none⟩=some (.bool true):=by rw[Ad _ _ _ _ _ _ h.row];rfl
theorem En.c1{v:World}{it:Value}(h:En w v x gI it):v.cell? ⟨gI,1,none⟩=some (.slice none 0 0):=by rw[Ad _ _ _ _ _ _ h.row];rfl
theorem En.c2{v:World}{it:Value}(h:En w v x gI it):v.cell? ⟨gI,2,none⟩=some it:=by rw[Ad _ _ _ _ _ _ h.row];rfl
theorem En.fz{v:World}{it:Value}(h:En w v x gI it):∀o,v.frozen? ⟨gI,o,none⟩=false:=λo=>AY _ _ _ _ _ h.row
theorem En.put{v:World}{it:Value}(h:En w v x gI it)(it':Value):En w (v.setCell ⟨gI,2,none⟩ it') x gI it':=by
 refine⟨?_,⟨(AC _ _ _ _ (by show w.heap.size≠gI;have:=h.gi;omega)).trans h.bx.row,h.bx.l⟩,h.bel.setCell (by have:=h.gi;show w.heap.size<=gI;omega) it',h.gi,by simpa using h.sz⟩;have:=AX v gI 2 _ 109 it' h.row;rw[this];rfl
def So(gI:Nat)(v:World)(it:Value)(ts:List T):Prop:=∃ys:List V,OwnI v (gI+1) it ys/\AllP (λb=>gI+1<=b/\it.ownBlock≠some b) v ts ys
theorem So.put{v:World}{it:Value}(h:So gI v it ts)(u:Value):So gI (v.setCell ⟨gI,2,none⟩ u) it ts:=by
 obtain⟨ys,h1,h2⟩:=h;exact⟨ys,Em h1 λg hg _=>AC _ _ _ _ (by have:=(Fs h1 hg).1;show g≠gI;omega),h2.mono λb hb _=>⟨AC _ _ _ _ (by show b≠gI;omega),hb⟩⟩
theorem So.all{v:World}{it:Value}(h:So gI v it ts)(hb:Below v.heap.size v v'):So gI v' it ts:=by
 obtain⟨ys,h1,h2⟩:=h;exact⟨ys,Em h1 λg _ hlt=>hb.block g hlt,h2.mono λb hb' hlt=>⟨hb.block b hlt,hb'⟩⟩
theorem Zk(gI:Nat)(v:World):So gI v (.slice none 0 0) []:=⟨[],CH _ _ _ _,trivial⟩
theorem Wf{wr:World}{it:Value}{t:T}(hz:gI+1<=wr.heap.size)(h:So gI wr it ts)(hb1:Below wr.heap.size wr w1)(hy:LiesP (λb=>wr.heap.size<=b) w1 t y)(hlen:ts.length<=1000)(ty:TypeId):
 ∃v' w3,(Builtin.append_ #[107,107] ty #[it, .slice (some ⟨w1.heap.size,0,none⟩) 1 1]).run prog (w1.alloc (.cells #[.bool y.l, .slice y.ba y.bn y.bc, .slice y.ia y.m y.ic] 109))= .ok v' w3/\So gI w3 v' (ts++[t])/\Below (gI+1) wr w3:=by
 obtain⟨ys,h1,h2⟩:=h;obtain⟨v',w3,e1,e2,e3,e4⟩:=QS hz h1 h2 hb1 hy (by have:=h2.len;omega) ty;exact⟨v',w3,e1,⟨_,e2,e3⟩,e4⟩
def Full(gI:Nat)(w v:World)(it:Value)(ts:List T):Prop:=∃ia ic,it= .slice ia ts.length ic/\ts.length<=ic/\ic<=maxLen/\LiesAll v ts ia 0
theorem So.full{v:World}{it:Value}(h:So gI v it ts):Full gI w v it ts:=by
 obtain⟨ys,h1,h2⟩:=h;exact Kj h1 h2.lies
theorem XN{wr:World}{it:Value}{t:T}(hE:En w wr x gI it)(h:So gI wr it ts)(hb1:Below wr.heap.size wr w1)(hy:Lies w t y)(hlen:ts.length<=1000)(ty:TypeId):
 ∃v' w3,(Builtin.append_ #[107,107] ty #[it, .slice (some ⟨w1.heap.size,0,none⟩) 1 1]).run prog (w1.alloc (.cells #[.bool y.l, .slice y.ba y.bn y.bc, .slice y.ia y.m y.ic] 109))= .ok v' w3/\Below (gI+1) wr w3/\Full gI w (w3.setCell ⟨gI,2,none⟩ v') v' (ts++[t]):=by
 obtain⟨ys,h1,h2⟩:=h;obtain⟨v',w3,e1,e2,ia,ic,e3,e4,e5,e6⟩:=P6 (base:=gI+1) (by have:=hE.gi;omega) hE.bel hE.sz h1 h2 hb1 hy (by have:=h2.len;omega) ty;refine⟨v',w3,e1,e2,ia,ic,by rw[Ab];exact e3,by rw[Ab];exact e4,e5,e6 _ (by simp) (λb hb _=>AC _ _ _ _ (by show b≠gI;omega)) ((hE.go e2).put v').bel⟩
theorem ownB_nil(w:World)(base:Nat):OwnB w base (.slice none 0 0) []:=⟨rfl, .inl ⟨rfl,rfl⟩⟩
theorem QT{a:Option Addr}{n:Nat}{bs:List Int}(h:OwnB w base (.slice a n c) bs):∀g off,a=some ⟨g,off,none⟩->base<=g/\∀o,w.frozen? ⟨g,o,none⟩=false:=by
 intro g off e;subst e;refine⟨h.lt g rfl,λo=>?_⟩;rcases h.2 with⟨h2,_⟩|⟨g',cap,cur,hv,_,hh,_⟩
 ·cases h2
 ·injection hv with e1 _ _;cases e1;exact AY _ _ _ _ _ hh
theorem QU(a:Option Addr)(n c:Nat)(b:List Int)(w:World)(h:Ag w a n c b)(hn:n<=140737488351232):
 Calls prog 156 #[.slice a n c] w λe w'=>(∃a' c',e= .returned (.slice a' n c')/\Ag w' a' n c' b/\∀g off,a'=some ⟨g,off,none⟩->w.heap.size<=g/\∀o,w'.frozen? ⟨g,o,none⟩=false)/\Below w.heap.size w w':=by
 have HA:=ZQ h;clear h;go_enter func156,ntmps156;go_wp2_with (first|(at_builtin;refine DL rfl (.tmp 4) (.tmp 5) rfl w.heap.size _ [] rfl (ownB_nil w _) a n c b rfl HA.out.i HA.out.nil HA.out.l (by simp;omega) (Aa _) ?_;intro v1 w1 o1 hb1;rw[AL]at o1;obtain⟨a1,c1,rfl,hag1⟩:=OwnB.ag o1 HA.out.b;rw[HA.out.l]at hag1⊢;have HB1:=ZQ hb1;have HA1:=ZQ hag1;have HO1:=ZQ (QT o1);clear o1 hb1 hag1));go_ret;exact⟨⟨a1,c1,rfl,HA1.out,HO1.out⟩,HB1.out⟩
def pc(b:List Int)(i j:Nat):List Int:=(b.take j).drop i
theorem Jb(h:j<=b.length):(pc b i j).length=j-i:=by unfold pc;rw[AQ,Am];omega
theorem Wh(h:j<=i):pc b i j=[]:=by unfold pc;rw[Bq];rw[Am];omega
theorem JL(h:i<j)(hj:j<=b.length):pc b i j=b.getD i 0::pc b (i+1) j:=by
 unfold pc;rw[Bz (by rw[Am];omega),List.getElem_take,List.getD,Ac (by omega)];rfl
theorem Wi{f t:Nat}(h:i+t<=j):((pc b i j).take t).drop f=pc b (i+f) (i+t):=by
 unfold pc;rw[List.take_drop,List.drop_drop,E8,CP h]
theorem QV(h:i+k<j)(hj:j<=b.length):(pc b i j).getD k 0=b.getD (i+k) 0:=by
 unfold pc;rw[List.getD,Cn,AO h];rfl
theorem Wj{x:Int}(h:x∈pc b i j):x∈b:=Bn (BF h)
def zeroV:Value:= .agg #[.bool false, .slice none 0 0, .slice none 0 0]
def FPost(w:World)(i:Nat)(r:R):Ending->World->Prop:=λe w'=>Below w.heap.size w w'/\
 match r with
 | .bad er=>e= .returned (.tuple #[.agg #[.bool false, .slice none 0 0, .slice none 0 0], .int .i64 0, .int .i64 (er:Nat)])/\er≠0
 | .ok t m=>∃y:V,e= .returned (.tuple #[.agg #[.bool y.l, .slice y.ba y.bn y.bc, .slice y.ia y.m y.ic], .int .i64 (i+m:Nat), .int .i64 0])/\LiesP (λb=>w.heap.size<=b) w' t y
def FSaid(k:Nat):Prop:=∀(a:Option Addr)(n c:Nat)(b:List Int)(w:World),Ag w a n c b->n<=140737488351232->∀i j d:Nat,i<=j->j<=n->d+k=8->
 Calls prog 150 #[.slice a n c, .int .i64 i, .int .i64 j, .int .i64 d] w (FPost w i (rd k (pc b i j)))
def GPost(w:World)(j:Nat)(r:RL):Ending->World->Prop:=λe w'=>Below w.heap.size w w'/\
 match r with
 | .bad er=>e= .returned (.tuple #[.agg #[.bool false, .slice none 0 0, .slice none 0 0], .int .i64 0, .int .i64 (er:Nat)])/\er≠0
 | .ok ts=>∃ia ic,e= .returned (.tuple #[.agg #[.bool true, .slice none 0 0, .slice ia ts.length ic], .int .i64 j, .int .i64 0])/\ts.length<=ic/\ic<=maxLen/\LiesPAll (λb=>w.heap.size<=b) w' ts ia 0
theorem Mn(h:3<c):lenIn r c=(0,23):=by unfold lenIn;rw[Ai h]
theorem KL(h:¬3<c)(h2:r.length<c):lenIn r c=(0,22):=by unfold lenIn;rw[Ae h,Ai h2]
theorem Mo(h:¬3<c)(h2:¬r.length<c)(h3:r.headD 0=0∨val (r.take c)<=55):lenIn r c=(0,23):=by unfold lenIn;rw[Ae h,Ae h2,Ai h3]
theorem QW(h:¬3<c)(h2:¬r.length<c)(h3:¬(r.headD 0=0∨val (r.take c)<=55)):lenIn r c=(val (r.take c),0):=by unfold lenIn;rw[Ae h,Ae h2,Ae h3]
theorem Ov{x:Int}(h1:¬(192<=x/\deep=true))(h2:¬x<128):hdr deep (x::r)=if 55<nOf x then(if(lenIn r (nOf x-55)).2≠0 then .bad (lenIn r (nOf x-55)).2 else if(x::r).length-(1+(nOf x-55))<(lenIn r (nOf x-55)).1 then .bad 22 else .ok (1+(nOf x-55)) (1+(nOf x-55)+(lenIn r (nOf x-55)).1))else if(x::r).length-1<nOf x then .bad 22 else .ok 1 (1+nOf x):=by
 unfold hdr;simp only;rw[Ae h1,Ae h2]
structure Hd(deep:Bool)(x:Int)(r:List Int)(f L:Nat):Prop where
 f1:1<=f
 f4:f<=4
 L24:L<16777216
 iff:f=1↔L<=55
 fle:f<=r.length+1
 eq:hdr deep (x::r)=if(r.length+1)-f<L then .bad 22 else .ok f (f+L)
theorem Wk{x:Int}(h1:¬(192<=x/\deep=true))(h2:¬x<128)(h3:¬55<nOf x):Hd deep x r 1 (nOf x):=
 ⟨Aa _,by omega,by omega,by omega,by omega,by rw[Ov h1 h2,Ae h3];rfl⟩
theorem SA{x:Int}(hb:∀y∈r,0<=y/\y<256)(h1:¬(192<=x/\deep=true))(h2:¬x<128)(h3:55<nOf x)(h4:¬3<nOf x-55)(h5:¬r.length<nOf x-55)(h6:¬(r.headD 0=0∨val (r.take (nOf x-55))<=55)):Hd deep x r (1+(nOf x-55)) (val (r.take (nOf x-55))):=by
 have hv:=DN hb (j:=nOf x-55) (by omega) (by omega);refine⟨by omega,by omega,by omega,by omega,by omega,?_⟩;rw[Ov h1 h2,Ai h3,QW h4 h5 h6];simp only[ne_eq,not_true,Er];rfl
theorem Kk{x:Int}{er:Nat}(h1:¬(192<=x/\deep=true))(h2:¬x<128)(h3:55<nOf x)(h4:lenIn r (nOf x-55)=(0,er))(her:er≠0):hdr deep (x::r)= .bad er:=by
 rw[Ov h1 h2,Ai h3,h4];simp only;rw[Ai her]
theorem FA{e:Nat}(h:hdr deep b= .bad e):rd1 g deep b= .bad e:=by unfold rd1;rw[h]
theorem QX(a:Option Addr)(n c i j d:Nat)(w:World)(k:Nat)(b:List Int)(hij:¬i<j)(hi:i<=140737488351232)(hrd:rd k (pc b i j)= .bad 22):
 Calls prog 150 #[.slice a n c, .int .i64 i, .int .i64 j, .int .i64 d] w (FPost w i (rd k (pc b i j))):=by
 rw[hrd];have hge:(i:Int)>=j:=by omega
 clear hrd;go_enter func150,ntmps150
 go_upto_if 18 with fail
 refine gen_w (p:=λv=>Code.wp _ _ _ _ v) (q:=Rb w) (Rb.new w) ?_;intro v R;have x0:=R.x0;have x1:=R.x1;have x2:=R.x2;have xf:=R.xf;have HR:=ZQ R;clear R;go_wp2_with fail;have hr:=put3 HR.out.row (.bool false) (.slice none 0 0) (.slice none 0 0);refine Aq (Bi results150 _ _ w.heap.size _ _ _ rfl hr) rfl ?_;exact⟨Ch HR.out.bel (Aa _) _ _ _,rfl,by decide⟩
theorem P7(a:Option Addr)(n c i j:Nat)(w:World)(b:List Int)(h:Ag w a n c b)(hn:n<=140737488351232)(hij:i<j)(hj:j<=n)(x:Int)(hx:b.getD i 0=x)(h192:192<=x)(res:R)(hres:res= .bad 21):
 Calls prog 150 #[.slice a n c, .int .i64 i, .int .i64 j, .int .i64 8] w (FPost w i res):=by
 subst hres;obtain⟨g,off,rfl,hc1,hc2,hc⟩:=ag_head h (by omega);unfold maxLen at hc2;have hcell:=hc i (by omega);rw[hx]at hcell;have hxb:=(h.b x (by rw[<-hx,List.getD,Ac (by rw[h.l];omega)];exact Bw _)).2;have hlt:(i:Int)<j:=by omega
 have hin:(i:Int)<n:=by omega
 clear hx hc h;go_enter func150,ntmps150
 go_upto_if 18 with fail
 have hcw:=AW (Rb.new w).bel hcell;refine gen_w (p:=λv=>Code.wp _ _ _ _ v) (q:=λv=>Rb w v/\v.cell? ⟨g,off+i,none⟩=some (.int .u8 x)) ⟨Rb.new w,hcw⟩ ?_;clear hcell hcw;rintro v⟨R,hcell⟩;have x0:=R.x0;have x1:=R.x1;have x2:=R.x2;have xf:=R.xf;have HR:=ZQ R;clear R;go_wp2_with fail;have hr:=put3 HR.out.row (.bool false) (.slice none 0 0) (.slice none 0 0);refine Aq (Bi results150 _ _ w.heap.size _ _ _ rfl hr) rfl ?_;exact⟨Ch HR.out.bel (Aa _) _ _ _,rfl,by decide⟩
theorem QY(a:Option Addr)(n c i j d:Nat)(w:World)(b:List Int)(h:Ag w a n c b)(hn:n<=140737488351232)(hij:i<j)(hj:j<=n)(x:Int)(hx:b.getD i 0=x)(h128:x<128)(res:R)(hres:res= .ok (.mk false [x] []) 1):
 Calls prog 150 #[.slice a n c, .int .i64 i, .int .i64 j, .int .i64 d] w (FPost w i res):=by
 subst hres;obtain⟨g,off,rfl,hc1,hc2,hc⟩:=ag_head h (by omega);unfold maxLen at hc2;have hcell:=hc i (by omega);rw[hx]at hcell;have hxb:=(h.b x (by rw[<-hx,List.getD,Ac (by rw[h.l];omega)];exact Bw _)).1;have hlt:(i:Int)<j:=by omega
 have hin:(i:Int)<n:=by omega
 clear hx hc h;go_enter func150,ntmps150
 go_upto_if 18 with fail
 have hcw:=AW (Rb.new w).bel hcell;refine gen_w (p:=λv=>Code.wp _ _ _ _ v) (q:=λv=>Rb w v/\v.cell? ⟨g,off+i,none⟩=some (.int .u8 x)) ⟨Rb.new w,hcw⟩ ?_;clear hcell hcw;rintro v⟨R,hcell⟩;have HR:=ZQ R;clear R;have R2:=HR.out.alloc (.cells #[.int .u8 x] 5);have HR2:=ZQ R2;have x0:=R2.x0;have x1:=R2.x1;have x2:=R2.x2;have xf:=R2.xf;clear R2;go_wp2_with fail;have hr:=put3 HR2.out.row (.bool false) (.slice (some ⟨v.heap.size,0,none⟩) 1 1) (.slice none 0 0);refine Aq (Bi results150 _ _ w.heap.size _ _ _ rfl hr) rfl ?_;have hz:=HR.out.bel.size;have hz2:=lt_of_get HR.out.row;refine⟨Ch HR2.out.bel (Aa _) _ _ _,⟨false,some ⟨v.heap.size,0,none⟩,1,1,none,0,0⟩,by simp,?_⟩
 have hrow:Row v.heap.size (((v.alloc (.cells #[.int .u8 x] 5)).setCell ⟨w.heap.size,0,none⟩ (.bool false)).setCell ⟨w.heap.size,1,none⟩ (.slice (some ⟨v.heap.size,0,none⟩) 1 1)|>.setCell ⟨w.heap.size,2,none⟩ (.slice none 0 0)) [x]:=
  (D3 (by omega) _ _ _).trans (Aj _ _)
 exact Ft hrow rfl (λy hy=>by
  have e:y=x:=by simpa using hy
  omega) (by omega) (by omega)
set_option maxRecDepth 20000 in
theorem P8(gg:List Int->R)(a:Option Addr)(n c i j d:Nat)(w:World)(b:List Int)(h:Ag w a n c b)(hn:n<=140737488351232)(hij:i<j)(hj:j<=n)(hd:d<=8)(x:Int)(hx:b.getD i 0=x)(hlo:128<=x)(hhi:x<192)(res:R)
 (hres:res=rd1 gg (decide (d=8)) (x::pc b (i+1) j)):
 Calls prog 150 #[.slice a n c, .int .i64 i, .int .i64 j, .int .i64 d] w (FPost w i res):=by
 obtain⟨g,off,rfl,hc1,hc2,hc⟩:=ag_head h (by omega);unfold maxLen at hc2;have hcell:=hc i (by omega);rw[hx]at hcell;have hbl:=h.l;have hx256:=(h.b x (by rw[<-hx,List.getD,Ac (by omega)];exact Bw _)).2;have hlt:(i:Int)<j:=by omega
 have hin:(i:Int)<n:=by omega
 have hrl:=Jb (b:=b) (i:=i+1) (j:=j) (by omega);have hrb:∀y∈pc b (i+1) j,0<=y/\y<256:=λy hy=>h.b y (Wj hy);have hnd:¬(192<=x/\decide (d=8)=true):=by omega
 have hn128:¬x<128:=by omega
 obtain⟨N,hN⟩:∃N,nOf x=N:=⟨_,rfl⟩;have hNx:x-128=N:=by
  rw[<-hN];unfold nOf;rw[Ae (by omega)];omega
 have hN63:N<=63:=by omega
 have HX:=ZQ hx;have HC:=ZQ hc;have HA:=ZQ h;have HRL:=ZQ hrl;have HRB:=ZQ hrb;have HND:=ZQ hnd;have HN:=ZQ hN;have HRES:=ZQ hres
 skip
 clear hx hc h hrl hrb hnd hN hres hbl;go_enter func150,ntmps150
 go_upto_if 18 with fail
 have hbw:=(Rb.new w).bel;refine gen_w (p:=λv=>Code.wp _ _ _ _ v) (q:=Rb w) (Rb.new w) ?_;clear hbw;intro v R;replace hcell:=AW R.bel hcell;have x0:=R.x0;have x1:=R.x1;have x2:=R.x2;have xf:=R.xf;have HR:=ZQ R;clear R;by_cases h58:N>58
 ·have h58i:(N:Int)>58:=by omega
  have hfin:res= .bad 23:=by rw[HRES.out];exact FA (Kk HND.out hn128 (by rw[HN.out];omega) (Mn (by rw[HN.out];omega)) (by decide))
  subst hfin;go_wp2_with fail;have hr:=put3 HR.out.row (.bool false) (.slice none 0 0) (.slice none 0 0);refine Aq (Bi results150 _ _ w.heap.size _ _ _ rfl hr) rfl ?_;exact⟨Ch HR.out.bel (Aa _) _ _ _,rfl,by decide⟩
 have h58i:¬(N:Int)>58:=by omega
 go_upto_if 54 with fail
 go_cut [1,13] (λp q v'=>∃f L:Nat,p= .int .i64 (i+f:Nat)/\q= .int .i64 L/\Hd (decide (d=8)) x (pc b (i+1) j) f L/\v'=v)
 case first=>
  by_cases h55:N>55
  case neg=>
   have h55i:¬(N:Int)>55:=(by omega);go_wp2_with fail
   go_meet
   case rel=>
    have:=Wk (r:=pc b (i+1) j) HND.out (by omega) (by rw[HN.out];omega);rw[HN.out]at this;exact⟨1,N,by simp,rfl,this,rfl⟩
  have h55i:(N:Int)>55:=by omega
  obtain⟨K,hK⟩:∃K,N=55+K:=⟨N-55,by omega⟩;subst hK;have hK3:K<=3:=by omega
  have hK1:1<=K:=by omega
  have hKi:((55+K:Nat):Int)-55=K:=by omega
  by_cases hsh:j-(i+1)<K
  ·have hshi:(j:Int)-(i+1)<K:=(by omega);have hfin:res= .bad 22:=(by rw[HRES.out];exact FA (Kk HND.out hn128 (by rw[HN.out];omega) (KL (by rw[HN.out];omega) (by rw[HN.out,HRL.out];omega)) (by decide)));subst hfin;go_wp2_with fail;have hr:=put3 HR.out.row (.bool false) (.slice none 0 0) (.slice none 0 0);refine Aq (Bi results150 _ _ w.heap.size _ _ _ rfl hr) rfl ?_;exact⟨Ch HR.out.bel (Aa _) _ _ _,rfl,by decide⟩
  have hshi:¬(j:Int)-(i+1)<K:=by omega
  go_wp2_with fail
  go_loopw [13,15] (λp q v'=>∃u:Nat,u<=K/\q= .int .i64 u/\p= .int .i64 (val ((pc b (i+1) j).take u):Nat)/\v'=v) (λ_ q _=>K-(intOf q).toNat)
  case atStart=>exact⟨0,by omega,rfl,rfl,rfl⟩
  case round=>
   obtain⟨u,hu,rfl,rfl,rfl⟩:=hrel;have hrl:=HRL.out;by_cases hlt2:u<K
   ·have hui:(u:Int)<K:=(by omega);have hcu:=AW HR.out.bel (HC.out (i+1+u) (by omega));rw[<-QV (b:=b) (i:=i+1) (j:=j) (k:=u) (by omega) (by rw[HA.out.l];omega)]at hcu;obtain⟨v1,v2⟩:=DN HRB.out (j:=u) (by omega) (by omega);have v3:=DN HRB.out (j:=u+1) (by omega) (by omega);have hvs:=L0 (b:=pc b (i+1) j) (j:=u) (by omega);have hxx:=HRB.out ((pc b (i+1) j).getD u 0) (by rw[List.getD,Ac (by omega)];exact Bw _);obtain⟨q,hq⟩:∃q,val ((pc b (i+1) j).take u)=q:=⟨_,rfl⟩;obtain⟨z,hz⟩:∃z,(pc b (i+1) j).getD u 0=z:=⟨_,rfl⟩;rw[hq]at v1 hvs⊢;rw[hz]at hcu hxx hvs;obtain⟨hz0,hz1⟩:=hxx;rw[hvs]at v3;have hq2:q<65536:=(by omega);have HV:Hid (((val ((pc b (i+1) j).take (u+1)):Nat):Int)=256*q+z):=ZQ (by omega);have hnn:(i:Int)+1+u<n:=(by omega);clear hvs v1 v2 v3 hq hz hrl;go_wp2_with fail;exact⟨⟨u+1,by omega,by simp,by rw[HV.out],trivial⟩,by simp[intOf];omega⟩
   ·have huK:u=K:=(by omega);subst huK;have hui:¬(u:Int)<u:=(by omega);obtain⟨v1,v2⟩:=DN HRB.out (j:=u) (by omega) (by omega);have hc0:=AW HR.out.bel (HC.out (i+1) (by omega));have hhd:(pc b (i+1) j).headD 0=b.getD (i+1) 0:=(by rw[JL (by omega) (by rw[HA.out.l];omega)];rfl);have hz1:=HA.out.b (b.getD (i+1) 0) (by rw[List.getD,Ac (by rw[HA.out.l];omega)];exact Bw _);have hform:=λh=>FA (g:=gg) (Kk HND.out (x:=x) (by omega) (by rw[HN.out];omega) (Mo (r:=pc b (i+1) j) (by rw[HN.out];omega) (by rw[HN.out,HRL.out];omega) h) (show 23≠0 by decide));have hmore:=SA (x:=x) HRB.out HND.out (by omega) (by rw[HN.out];omega) (by rw[HN.out];omega) (by rw[HN.out,HRL.out];omega);rw[<-HRES.out]at hform;rw[HN.out,show 55+u-55=u from by omega,hhd]at hform hmore;obtain⟨q,hq⟩:∃q,val ((pc b (i+1) j).take u)=q:=⟨_,rfl⟩;obtain⟨z,hz⟩:∃z,b.getD (i+1) 0=z:=⟨_,rfl⟩;rw[hq]at v1 hform hmore⊢;rw[hz]at hc0 hz1 hform hmore;have hq24:q<16777216:=(by omega);have hnn:(i:Int)+1<n:=(by omega);have HFO:=ZQ hform;have HMO:=ZQ hmore;clear hq hz hhd hrl v1 v2 hform hmore;by_cases hz0:z=0
    ·have hfin:res= .bad 23:=HFO.out (.inl hz0);subst hfin hz0;clear hz1;go_wp2_with fail;have hr:=put3 HR.out.row (.bool false) (.slice none 0 0) (.slice none 0 0);refine Aq (Bi results150 _ _ w.heap.size _ _ _ rfl hr) rfl ?_;exact⟨Ch HR.out.bel (Aa _) _ _ _,rfl,by decide⟩
    ·have hzb:(z==0)=false:=(by rw[Bp];exact hz0);by_cases hq55:q<56
     ·have hfin:res= .bad 23:=HFO.out (.inr (by omega));have hqi:(q:Int)<56:=(by omega);subst hfin;go_wp2_with fail;have hr:=put3 HR.out.row (.bool false) (.slice none 0 0) (.slice none 0 0);refine Aq (Bi results150 _ _ w.heap.size _ _ _ rfl hr) rfl ?_;exact⟨Ch HR.out.bel (Aa _) _ _ _,rfl,by decide⟩
     ·have hqi:¬(q:Int)<56:=(by omega);have HMM:=ZQ (HMO.out (by rintro(h|h);exact hz0 h;omega));go_wp2_with fail
      go_meet
      case rel=>exact⟨1+u,q,by simp;omega,rfl,HMM.out,rfl⟩
 case rest=>
  obtain⟨f,L,rfl,rfl,H,rfl⟩:=hcut;have heq:=H.eq;have hf1:=H.f1;have hf4:=H.f4;have hL24:=H.L24;have hiff:=H.iff;have hfle:=H.fle;rw[HRL.out]at heq hfle;have hpc:x::pc b (i+1) j=pc b i j:=by rw[JL (b:=b) (i:=i) hij (by rw[HA.out.l];omega),HX.out]
  clear H hcell;by_cases hsh:(j-(i+1)+1)-f<L
  ·rw[Ai hsh]at heq;have hfin:res= .bad 22:=(by rw[HRES.out];exact FA heq);subst hfin;have hshi:(j:Int)-((i+f:Nat):Int)<L:=(by omega);clear heq hpc;go_wp2_with fail;have hr:=put3 HR.out.row (.bool false) (.slice none 0 0) (.slice none 0 0);refine Aq (Bi results150 _ _ w.heap.size _ _ _ rfl hr) rfl ?_;exact⟨Ch HR.out.bel (Aa _) _ _ _,rfl,by decide⟩
  rw[Ae hsh]at heq;have hshi:¬(j:Int)-((i+f:Nat):Int)<L:=by omega
  have hfjn:i+f+L<=j:=by omega
  have hri:=HRES.out;unfold rd1 at hri;rw[heq]at hri;simp only at hri;rw[hpc,Wi (by omega)]at hri;have hhd:(pc b i j).headD 0=x:=by rw[<-hpc];rfl
  rw[hhd]at hri;have hsub:=NK (HA.out.at HR.out.bel) (f:=i+f) (t:=i+(f+L)) (by omega) (by omega);rw[show i+(f+L)-(i+f)=L from by omega]at hsub;clear heq hhd hsh;rw[Ai hhi]at hri;have hget:(pc b i j).getD 1 0=b.getD (i+1) 0∨¬(f=1/\f+L=2):=by
   by_cases h1:f=1/\f+L=2
   ·exact .inl (QV (by omega) (by rw[HA.out.l];omega))
   ·exact .inr h1
  by_cases hone:f=1/\f+L=2/\(pc b i j).getD 1 0<128
  ·rw[Ai hone]at hri;obtain⟨o1,o2,o3⟩:=hone;have oL:L=1:=(by omega);rw[hget.resolve_right (λh=>h ⟨o1,o2⟩)]at o3;subst o1 oL hri;have hc0:=AW HR.out.bel (HC.out (i+1) (by omega));have hz1:=(HA.out.b (b.getD (i+1) 0) (by rw[List.getD,Ac (by rw[HA.out.l];omega)];exact Bw _)).1;generalize b.getD (i+1) 0=z at*;have hnn:((i+1:Nat):Int)<n:=(by omega);clear hsub hget hpc hiff;go_wp2_with fail;have hr:=put3 HR.out.row (.bool false) (.slice none 0 0) (.slice none 0 0);refine Aq (Bi results150 _ _ w.heap.size _ _ _ rfl hr) rfl ?_;exact⟨Ch HR.out.bel (Aa _) _ _ _,rfl,by decide⟩
  rw[Ae hone]at hri;have HRI:=ZQ hri;have hib:((i+f:Nat):Int)<=((i+f:Nat):Int)+L:=by omega
  have hib2:((i+f:Nat):Int)+L<=n:=by omega
  have hcz:¬L=1∨(L=1/\f=1/\¬b.getD (i+1) 0<128):=by
   by_cases hL1:L=1
   ·have hf:f=1:=hiff.2 (by omega);refine .inr ⟨hL1,hf,λh=>hone ⟨hf,by omega,?_⟩⟩;rw[hget.resolve_right (λh=>h ⟨hf,by omega⟩)];exact h
   ·exact .inl hL1
  have hcp:=QU _ L _ _ _ hsub (by omega);have HCP:=ZQ hcp;clear hcp;clear hri hone hget hsub hiff hpc;have hout:∀(a':Option Addr)(c':Nat)(w2:World),Ag w2 a' L c' (pc b (i+f) (i+(f+L)))->(∀g off,a'=some ⟨g,off,none⟩->wc.heap.size<=g/\∀o,w2.frozen? ⟨g,o,none⟩=false)->Below wc.heap.size wc w2->FPost w i res (.returned (.tuple #[.agg #[.bool false, .slice a' L c', .slice none 0 0], .int .i64 (((i+f:Nat):Int)+L), .int .i64 0])) (((w2.setCell ⟨w.heap.size,0,none⟩ (.bool false)).setCell ⟨w.heap.size,1,none⟩ (.slice a' L c')).setCell ⟨w.heap.size,2,none⟩ (.slice none 0 0)):=by
   intro a' c' w2 h1 h2 h3;rw[HRI.out];have hz:=HR.out.bel.size;have hz2:=lt_of_get HR.out.row;refine⟨Ch (below_go HR.out.bel h3) (Aa _) _ _ _,⟨false,a',L,c',none,0,0⟩,by simp;omega,?_⟩;refine liesP_eq.2 ⟨⟨rfl,KY h1 (λg off e _ _=>D3 (by have:=(h2 g off e).1;omega) _ _ _),rfl,Aa _,by show 0<=maxLen;unfold maxLen;omega,⟨by show L<=140737488351232;omega,by show 0<=140737488351232;omega⟩,λg off e _=>⟨Ar hz (h2 g off e).1,λo=>by rw[E0,E0,E0];exact(h2 g off e).2 o⟩⟩,D9⟩
  have HOUT:=ZQ hout;clear hout;clear x0 x1 x2 xf;rcases hcz with hL1|⟨rfl,rfl,hz128⟩
  ·have hLb:((L:Int)==1)=false:=(by rw[Bp];omega);by_cases hck:c=i+f
   ·rw[Ai hck]at HCP;subst hck;rw[Cc]at HCP;go_wp2_with fail;refine HCP.out.mono ?_;rintro e w2⟨⟨a',c',rfl,h1,h2⟩,h3⟩;have R2:=HR.out.call h3;have x0:=R2.x0;have x1:=R2.x1;have x2:=R2.x2;have xf:=R2.xf;have HFI:=ZQ (HOUT.out a' c' w2 h1 h2 h3);have HR2:=ZQ R2;clear R2 h1 h2 h3 HCP;go_wp2_with fail;have hr:=put3 HR2.out.row (.bool false) (.slice a' L c') (.slice none 0 0);refine Aq (Bi results150 _ _ w.heap.size _ _ _ rfl hr) rfl ?_;exact HFI.out
   ·rw[Ae hck]at HCP;go_wp2_with fail;refine HCP.out.mono ?_;rintro e w2⟨⟨a',c',rfl,h1,h2⟩,h3⟩;have R2:=HR.out.call h3;have x0:=R2.x0;have x1:=R2.x1;have x2:=R2.x2;have xf:=R2.xf;have HFI:=ZQ (HOUT.out a' c' w2 h1 h2 h3);have HR2:=ZQ R2;clear R2 h1 h2 h3 HCP;go_wp2_with fail;have hr:=put3 HR2.out.row (.bool false) (.slice a' L c') (.slice none 0 0);refine Aq (Bi results150 _ _ w.heap.size _ _ _ rfl hr) rfl ?_;exact HFI.out
  ·have hnn:((i+1:Nat):Int)<n:=(by omega);have hck:¬c=i+1:=(by omega);have hc0:=AW HR.out.bel (HC.out (i+1) (by omega));have hz1:=(HA.out.b (b.getD (i+1) 0) (by rw[List.getD,Ac (by rw[HA.out.l];omega)];exact Bw _));generalize b.getD (i+1) 0=z at*;have hz128:¬z<128:=hz128
   ·rw[Ae hck]at HCP;go_wp2_with fail;refine HCP.out.mono ?_;rintro e w2⟨⟨a',c',rfl,h1,h2⟩,h3⟩;have R2:=HR.out.call h3;have x0:=R2.x0;have x1:=R2.x1;have x2:=R2.x2;have xf:=R2.xf;have HFI:=ZQ (HOUT.out a' c' w2 h1 h2 h3);have HR2:=ZQ R2;clear R2 h1 h2 h3 HCP;go_wp2_with fail;have hr:=put3 HR2.out.row (.bool false) (.slice a' 1 c') (.slice none 0 0);refine Aq (Bi results150 _ _ w.heap.size _ _ _ rfl hr) rfl ?_;exact HFI.out
set_option maxRecDepth 20000 in
theorem P9(gg:List Int->R)(a:Option Addr)(n c i j d:Nat)(w:World)(b:List Int)(h:Ag w a n c b)(hn:n<=140737488351232)(hij:i<j)(hj:j<=n)(hd:d<=8)(x:Int)(hx:b.getD i 0=x)(hlo:192<=x)(hd8:d<8)
 (hitems:∀(a:Option Addr)(n c:Nat)(b:List Int)(w:World),Ag w a n c b->n<=140737488351232->∀i j:Nat,i<=j->j<=n->j-i<16777216->Calls prog 157 #[.slice a n c, .int .i64 i, .int .i64 j, .int .i64 (d+1:Nat)] w (GPost w j (rdAll gg (pc b i j).length (pc b i j))))
 (hgg:∀b t m,gg b= .ok t m->1<=m/\m<=b.length) (res:R)
 (hres:res=rd1 gg (decide (d=8)) (x::pc b (i+1) j)):
 Calls prog 150 #[.slice a n c, .int .i64 i, .int .i64 j, .int .i64 d] w (FPost w i res):=by
 obtain⟨g,off,rfl,hc1,hc2,hc⟩:=ag_head h (by omega);unfold maxLen at hc2;have hcell:=hc i (by omega);rw[hx]at hcell;have hbl:=h.l;have hx256:=(h.b x (by rw[<-hx,List.getD,Ac (by omega)];exact Bw _)).2;have hlt:(i:Int)<j:=by omega
 have hin:(i:Int)<n:=by omega
 have hrl:=Jb (b:=b) (i:=i+1) (j:=j) (by omega);have hrb:∀y∈pc b (i+1) j,0<=y/\y<256:=λy hy=>h.b y (Wj hy);have hnd:¬(192<=x/\decide (d=8)=true):=by simp;omega
 have hn128:¬x<128:=by omega
 obtain⟨N,hN⟩:∃N,nOf x=N:=⟨_,rfl⟩;have hNx:x-192=N:=by
  rw[<-hN];unfold nOf;rw[Ai (by omega)];omega
 have hN63:N<=63:=by omega
 have HX:=ZQ hx;have HC:=ZQ hc;have HA:=ZQ h;have HRL:=ZQ hrl;have HRB:=ZQ hrb;have HND:=ZQ hnd;have HN:=ZQ hN;have HRES:=ZQ hres;have HIT:=ZQ hitems;have HGG:=ZQ hgg;clear hitems hgg;clear hx hc h hrl hrb hnd hN hres hbl;go_enter func150,ntmps150
 go_upto_if 18 with fail
 have hbw:=(Rb.new w).bel;refine gen_w (p:=λv=>Code.wp _ _ _ _ v) (q:=Rb w) (Rb.new w) ?_;clear hbw;intro v R;replace hcell:=AW R.bel hcell;have x0:=R.x0;have x1:=R.x1;have x2:=R.x2;have xf:=R.xf;have HR:=ZQ R;clear R;by_cases h58:N>58
 ·have h58i:(N:Int)>58:=by omega
  have hfin:res= .bad 23:=by rw[HRES.out];exact FA (Kk HND.out hn128 (by rw[HN.out];omega) (Mn (by rw[HN.out];omega)) (by decide))
  subst hfin;go_wp2_with fail;have hr:=put3 HR.out.row (.bool false) (.slice none 0 0) (.slice none 0 0);refine Aq (Bi results150 _ _ w.heap.size _ _ _ rfl hr) rfl ?_;exact⟨Ch HR.out.bel (Aa _) _ _ _,rfl,by decide⟩
 have h58i:¬(N:Int)>58:=by omega
 go_upto_if 54 with fail
 go_cut [1,13] (λp q v'=>∃f L:Nat,p= .int .i64 (i+f:Nat)/\q= .int .i64 L/\Hd (decide (d=8)) x (pc b (i+1) j) f L/\v'=v)
 case first=>
  by_cases h55:N>55
  case neg=>
   have h55i:¬(N:Int)>55:=(by omega);go_wp2_with fail
   go_meet
   case rel=>
    have:=Wk (r:=pc b (i+1) j) HND.out (by omega) (by rw[HN.out];omega);rw[HN.out]at this;exact⟨1,N,by simp,rfl,this,rfl⟩
  have h55i:(N:Int)>55:=by omega
  obtain⟨K,hK⟩:∃K,N=55+K:=⟨N-55,by omega⟩;subst hK;have hK3:K<=3:=by omega
  have hK1:1<=K:=by omega
  have hKi:((55+K:Nat):Int)-55=K:=by omega
  by_cases hsh:j-(i+1)<K
  ·have hshi:(j:Int)-(i+1)<K:=(by omega);have hfin:res= .bad 22:=(by rw[HRES.out];exact FA (Kk HND.out hn128 (by rw[HN.out];omega) (KL (by rw[HN.out];omega) (by rw[HN.out,HRL.out];omega)) (by decide)));subst hfin;go_wp2_with fail;have hr:=put3 HR.out.row (.bool false) (.slice none 0 0) (.slice none 0 0);refine Aq (Bi results150 _ _ w.heap.size _ _ _ rfl hr) rfl ?_;exact⟨Ch HR.out.bel (Aa _) _ _ _,rfl,by decide⟩
  have hshi:¬(j:Int)-(i+1)<K:=by omega
  go_wp2_with fail
  go_loopw [13,15] (λp q v'=>∃u:Nat,u<=K/\q= .int .i64 u/\p= .int .i64 (val ((pc b (i+1) j).take u):Nat)/\v'=v) (λ_ q _=>K-(intOf q).toNat)
  case atStart=>exact⟨0,by omega,rfl,rfl,rfl⟩
  case round=>
   obtain⟨u,hu,rfl,rfl,rfl⟩:=hrel;have hrl:=HRL.out;by_cases hlt2:u<K
   ·have hui:(u:Int)<K:=(by omega);have hcu:=AW HR.out.bel (HC.out (i+1+u) (by omega));rw[<-QV (b:=b) (i:=i+1) (j:=j) (k:=u) (by omega) (by rw[HA.out.l];omega)]at hcu;obtain⟨v1,v2⟩:=DN HRB.out (j:=u) (by omega) (by omega);have v3:=DN HRB.out (j:=u+1) (by omega) (by omega);have hvs:=L0 (b:=pc b (i+1) j) (j:=u) (by omega);have hxx:=HRB.out ((pc b (i+1) j).getD u 0) (by rw[List.getD,Ac (by omega)];exact Bw _);obtain⟨q,hq⟩:∃q,val ((pc b (i+1) j).take u)=q:=⟨_,rfl⟩;obtain⟨z,hz⟩:∃z,(pc b (i+1) j).getD u 0=z:=⟨_,rfl⟩;rw[hq]at v1 hvs⊢;rw[hz]at hcu hxx hvs;obtain⟨hz0,hz1⟩:=hxx;rw[hvs]at v3;have hq2:q<65536:=(by omega);have HV:Hid (((val ((pc b (i+1) j).take (u+1)):Nat):Int)=256*q+z):=ZQ (by omega);have hnn:(i:Int)+1+u<n:=(by omega);clear hvs v1 v2 v3 hq hz hrl;go_wp2_with fail;exact⟨⟨u+1,by omega,by simp,by rw[HV.out],trivial⟩,by simp[intOf];omega⟩
   ·have huK:u=K:=(by omega);subst huK;have hui:¬(u:Int)<u:=(by omega);obtain⟨v1,v2⟩:=DN HRB.out (j:=u) (by omega) (by omega);have hc0:=AW HR.out.bel (HC.out (i+1) (by omega));have hhd:(pc b (i+1) j).headD 0=b.getD (i+1) 0:=(by rw[JL (by omega) (by rw[HA.out.l];omega)];rfl);have hz1:=HA.out.b (b.getD (i+1) 0) (by rw[List.getD,Ac (by rw[HA.out.l];omega)];exact Bw _);have hform:=λh=>FA (g:=gg) (Kk HND.out (x:=x) (by omega) (by rw[HN.out];omega) (Mo (r:=pc b (i+1) j) (by rw[HN.out];omega) (by rw[HN.out,HRL.out];omega) h) (show 23≠0 by decide));have hmore:=SA (x:=x) HRB.out HND.out (by omega) (by rw[HN.out];omega) (by rw[HN.out];omega) (by rw[HN.out,HRL.out];omega);rw[<-HRES.out]at hform;rw[HN.out,show 55+u-55=u from by omega,hhd]at hform hmore;obtain⟨q,hq⟩:∃q,val ((pc b (i+1) j).take u)=q:=⟨_,rfl⟩;obtain⟨z,hz⟩:∃z,b.getD (i+1) 0=z:=⟨_,rfl⟩;rw[hq]at v1 hform hmore⊢;rw[hz]at hc0 hz1 hform hmore;have hq24:q<16777216:=(by omega);have hnn:(i:Int)+1<n:=(by omega);have HFO:=ZQ hform;have HMO:=ZQ hmore;clear hq hz hhd hrl v1 v2 hform hmore;by_cases hz0:z=0
    ·have hfin:res= .bad 23:=HFO.out (.inl hz0);subst hfin hz0;clear hz1;go_wp2_with fail;have hr:=put3 HR.out.row (.bool false) (.slice none 0 0) (.slice none 0 0);refine Aq (Bi results150 _ _ w.heap.size _ _ _ rfl hr) rfl ?_;exact⟨Ch HR.out.bel (Aa _) _ _ _,rfl,by decide⟩
    ·have hzb:(z==0)=false:=(by rw[Bp];exact hz0);by_cases hq55:q<56
     ·have hfin:res= .bad 23:=HFO.out (.inr (by omega));have hqi:(q:Int)<56:=(by omega);subst hfin;go_wp2_with fail;have hr:=put3 HR.out.row (.bool false) (.slice none 0 0) (.slice none 0 0);refine Aq (Bi results150 _ _ w.heap.size _ _ _ rfl hr) rfl ?_;exact⟨Ch HR.out.bel (Aa _) _ _ _,rfl,by decide⟩
     ·have hqi:¬(q:Int)<56:=(by omega);have HMM:=ZQ (HMO.out (by rintro(h|h);exact hz0 h;omega));go_wp2_with fail
      go_meet
      case rel=>exact⟨1+u,q,by simp;omega,rfl,HMM.out,rfl⟩
 case rest=>
  obtain⟨f,L,rfl,rfl,H,rfl⟩:=hcut;have heq:=H.eq;have hf1:=H.f1;have hf4:=H.f4;have hL24:=H.L24;have hiff:=H.iff;have hfle:=H.fle;rw[HRL.out]at heq hfle;have hpc:x::pc b (i+1) j=pc b i j:=by rw[JL (b:=b) (i:=i) hij (by rw[HA.out.l];omega),HX.out]
  clear H hcell;by_cases hsh:(j-(i+1)+1)-f<L
  ·rw[Ai hsh]at heq;have hfin:res= .bad 22:=(by rw[HRES.out];exact FA heq);subst hfin;have hshi:(j:Int)-((i+f:Nat):Int)<L:=(by omega);clear heq hpc;go_wp2_with fail;have hr:=put3 HR.out.row (.bool false) (.slice none 0 0) (.slice none 0 0);refine Aq (Bi results150 _ _ w.heap.size _ _ _ rfl hr) rfl ?_;exact⟨Ch HR.out.bel (Aa _) _ _ _,rfl,by decide⟩
  rw[Ae hsh]at heq;have hshi:¬(j:Int)-((i+f:Nat):Int)<L:=by omega
  have hfjn:i+f+L<=j:=by omega
  have hri:=HRES.out;unfold rd1 at hri;rw[heq]at hri;simp only at hri;rw[hpc,Wi (by omega)]at hri;have hhd:(pc b i j).headD 0=x:=by rw[<-hpc];rfl
  rw[hhd]at hri;have hsub:=NK (HA.out.at HR.out.bel) (f:=i+f) (t:=i+(f+L)) (by omega) (by omega);rw[show i+(f+L)-(i+f)=L from by omega]at hsub;clear heq hhd hsh;rw[Ae (by omega)]at hri;have hit:=HIT.out _ n c b wc (HA.out.at HR.out.bel) hn (i+f) (i+(f+L)) (by omega) (by omega) (by omega);rw[show((i+(f+L):Nat):Int)=((i+f:Nat):Int)+L from by omega,show((d+1:Nat):Int)=(d:Int)+1 from by omega]at hit;have hln:=λts h=>Iy HGG.out (pc b (i+f) (i+(f+L))).length (pc b (i+f) (i+(f+L))) ts h;rw[Jb (by rw[HA.out.l];omega)]at hln;have HLN:=ZQ hln;have HIC:=ZQ hit;have HRI:=ZQ hri;clear hit hri hsub hiff hpc HIT hln x0 x1 x2 xf;go_wp2_with fail;refine HIC.out.mono ?_;rintro e w2⟨h3,hm⟩;have R2:=HR.out.call h3;have x0:=R2.x0;have x1:=R2.x1;have x2:=R2.x2;have xf:=R2.xf;have HR2:=ZQ R2;have H3:=ZQ h3;have hz:=HR.out.bel.size;have hz2:=lt_of_get HR.out.row;clear R2 h3 HIC;cases hr:rdAll gg (pc b (i+f) (i+(f+L))).length (pc b (i+f) (i+(f+L)))with
  |bad er=>
   rw[hr]at hm;obtain⟨rfl,her⟩:=hm;have hfin:=HRI.out;rw[hr]at hfin;simp only at hfin;subst hfin;clear hr;go_wp2_with fail;have hr:=put3 HR2.out.row (.bool false) (.slice none 0 0) (.slice none 0 0);refine Aq (Bi results150 _ _ w.heap.size _ _ _ rfl hr) rfl ?_;exact⟨Ch HR2.out.bel (Aa _) _ _ _,rfl,her⟩
  |ok ts=>
   rw[hr]at hm;obtain⟨ia,ic,rfl,q1,q2,q3⟩:=hm;have hfin:=HRI.out;rw[hr]at hfin;simp only at hfin;subst hfin;have htl:=HLN.out ts (by rw[Jb (by rw[HA.out.l];omega)]at hr;exact hr);have HQ:=ZQ q3;clear hr q3;go_wp2_with fail;have hr:=put3 HR2.out.row (.bool true) (.slice none 0 0) (.slice ia ts.length ic);refine Aq (Bi results150 _ _ w.heap.size _ _ _ rfl hr) rfl ?_;refine⟨Ch HR2.out.bel (Aa _) _ _ _,⟨true,none,0,0,ia,ts.length,ic⟩,by simp,?_⟩;refine IQ q1 q2 (by omega) (DU (λb(hb:wc.heap.size<=b) hlt=>⟨D3 (by omega) _ _ _,by omega⟩) (λu _=>B6 (λb(hb:wc.heap.size<=b) hlt=>⟨D3 (by omega) _ _ _,by omega⟩) u) HQ.out)
theorem TV{N:Nat}{u v:World}(h:Below N u v){g o t:Nat}{cs:Array Value}(hg:g<N)(hu:u.heap[g]?=some (.cells cs t))(x:Value):Below N (u.setCell ⟨g,o,none⟩ x) (v.setCell ⟨g,o,none⟩ x):=by
 have hgb:=(h.block g hg).trans hu;refine⟨h.os,h.tape,h.output,by simpa using h.size,λk hk=>?_⟩;by_cases e:k=g
 ·subst e;rw[AX u k o _ t x hu,AX v k o _ t x hgb]
 ·rw[AC _ _ _ _ e,AC _ _ _ _ e];exact h.block k hk
structure Ib(w v U:World)(it:Value)(ts:List T)(ys:List V):Prop where
 sz:U.heap.size=w.heap.size+2
 res:U.heap[w.heap.size]?=some (.cells #[.bool false, .slice none 0 0, .slice none 0 0] 109)
 box:U.heap[w.heap.size+1]?=some (.cells #[.bool true, .slice none 0 0,it] 109)
 bw:Below w.heap.size w U
 bel:Below U.heap.size U v
 own:OwnI v U.heap.size it ys
 all:AllP (λb=>U.heap.size<=b/\it.ownBlock≠some b) v ts ys
theorem Zl(w:World):Ib w ((w.alloc (.cells #[.bool false, .slice none 0 0, .slice none 0 0] 109)).alloc (.cells #[.bool true, .slice none 0 0, .slice none 0 0] 109)) ((w.alloc (.cells #[.bool false, .slice none 0 0, .slice none 0 0] 109)).alloc (.cells #[.bool true, .slice none 0 0, .slice none 0 0] 109)) (.slice none 0 0) [] []:=
 ⟨by simp,(Az _ _ _ (by simp)).trans (Aj _ _),heap_alloc2_new _ _ _,((Ak _ _).alloc (Aa _) _).alloc (by simp) _,Ak _ _,CH _ _ _ _,trivial⟩
theorem XO{v:World}{it:Value}{t:T}(h:Ib w v U it ts ys)(hb1:Below v.heap.size v w1)(hy:LiesP (λb=>v.heap.size<=b) w1 t y)(hlen:ys.length<=1000000000)(ty:TypeId):
 ∃it' w3,(Builtin.append_ #[107,107] ty #[it, .slice (some ⟨w1.heap.size+1,0,none⟩) 1 1]).run prog ((w1.alloc (.cells #[.bool y.l, .slice y.ba y.bn y.bc, .slice y.ia y.m y.ic] 109)).alloc (.cells #[.bool y.l, .slice y.ba y.bn y.bc, .slice y.ia y.m y.ic] 109))= .ok it' w3/\
  Below U.heap.size U w3/\Ib w (w3.setCell ⟨w.heap.size+1,2,none⟩ it') (U.setCell ⟨w.heap.size+1,2,none⟩ it') it' (ts++[t]) (ys++[y]):=by
 obtain⟨it',w3,hrun,s1,s2,s3⟩:=LE h.own h.all h.bel hb1 hy hlen ty;have hs:=h.sz;refine⟨it',w3,hrun,s3,⟨by simpa using hs,(AC _ _ _ _ (show w.heap.size≠w.heap.size+1 by omega)).trans h.res,?_,h.bw.setCell (by simp) _,?_,?_,?_⟩⟩
 ·have:=AX U (w.heap.size+1) 2 _ 109 it' h.box;simpa using this
 ·have:=TV s3 (g:=w.heap.size+1) (o:=2) (by omega) h.box it';simpa using this
 ·have e:(U.setCell ⟨w.heap.size+1,2,none⟩ it').heap.size=U.heap.size:=by simp
  rw[e];exact Em s1 (λg hg _=>AC _ _ _ _ (show g≠w.heap.size+1 by have:=(Fs s1 hg).1;omega))
 ·have e:(U.setCell ⟨w.heap.size+1,2,none⟩ it').heap.size=U.heap.size:=by simp
  rw[e];exact s2.mono λb hb _=>⟨AC _ _ _ _ (show b≠w.heap.size+1 by have:=hb.1;omega),hb⟩
theorem TW{v:Value}(h:OwnI w base v ys):∃a n c,v= .slice a n c:=by
 rcases h.2 with⟨h2,_⟩|⟨g,cap,cur,hv,_⟩
 ·exact⟨_,_,_,h2⟩
 ·exact⟨_,_,_,hv⟩
theorem Ib.cells{v:World}{it:Value}(h:Ib w v U it ts ys)(hb:Below U.heap.size U v'):
 (∀o,v'.frozen? ⟨w.heap.size,o,none⟩=false)/\(∀o,v'.frozen? ⟨w.heap.size+1,o,none⟩=false)/\v'.cell? ⟨w.heap.size,0,none⟩=some (.bool false)/\v'.cell? ⟨w.heap.size,1,none⟩=some (.slice none 0 0)/\v'.cell? ⟨w.heap.size,2,none⟩=some (.slice none 0 0)/\v'.cell? ⟨w.heap.size+1,0,none⟩=some (.bool true)/\v'.cell? ⟨w.heap.size+1,1,none⟩=some (.slice none 0 0)/\v'.cell? ⟨w.heap.size+1,2,none⟩=some it:=by
 have r1:=Below.row hb h.res;have r2:=Below.row hb h.box;exact⟨λo=>AY _ _ _ _ _ r1,λo=>AY _ _ _ _ _ r2,by rw[Ad _ _ _ _ _ _ r1];rfl,by rw[Ad _ _ _ _ _ _ r1];rfl,by rw[Ad _ _ _ _ _ _ r1];rfl,by rw[Ad _ _ _ _ _ _ r2];rfl,by rw[Ad _ _ _ _ _ _ r2];rfl,by rw[Ad _ _ _ _ _ _ r2];rfl⟩
theorem QZ(k:Nat)(hfirst:FSaid k)(a:Option Addr)(n c:Nat)(b:List Int)(w:World)(h:Ag w a n c b)(hn:n<=140737488351232)(i j d:Nat)(hij:i<=j)(hj:j<=n)(hl:j-i<16777216)(hd:d+k=8):
 Calls prog 157 #[.slice a n c, .int .i64 i, .int .i64 j, .int .i64 d] w (GPost w j (rdAll (rd k) (pc b i j).length (pc b i j))):=by
 have HF:=ZQ hfirst;have HA:=ZQ h;obtain⟨res,hres⟩:∃r,rdAll (rd k) (pc b i j).length (pc b i j)=r:=⟨_,rfl⟩;rw[hres];have HRES:=ZQ hres;clear hfirst h hres;go_enter func157,ntmps157;go_wp2_with fail
 go_loopw [1] (λp v=>∃(q:Nat)(U:World)(it:Value)(ts:List T)(ys:List V),p= .int .i64 q/\i<=q/\q<=j/\ts.length<=q-i/\res=RL.pre ts (rdAll (rd k) (pc b q j).length (pc b q j))/\Ib w v U it ts ys) (λp _=>j-(intOf p).toNat)
 case atStart=>exact⟨i,_,_,[],[],rfl,Aa _,hij,by simp,by rw[RN];exact HRES.out.symm,Zl w⟩
 case round=>
  obtain⟨q,U,it,ts,ys,rfl,hiq,hqj,htl,hpre,H⟩:=hrel;obtain⟨f1,f2,c0,c1,c2,e0,e1,e2⟩:=H.cells H.bel;have HH:=ZQ H;have HP:=ZQ hpre;clear H hpre;by_cases hlt:q<j
  ·have hqi:(q:Int)<j:=(by omega);have hcal:=HF.out a n c b wr (HA.out.at (below_go HH.out.bw HH.out.bel)) hn q j d (by omega) hj hd;have HC:=ZQ hcal;clear hcal;go_wp2_with fail;refine HC.out.mono ?_;rintro e w1⟨hb1,hm⟩;cases hr:rd k (pc b q j)with
   |bad er=>
    rw[hr]at hm;obtain⟨rfl,her⟩:=hm;have hne:pc b q j≠[]:=by
     intro e;have:=Jb (b:=b) (i:=q) (j:=j) (by rw[HA.out.l];omega);rw[e]at this;simp at this;omega
    have hfin:res= .bad er:=by
     rw[HP.out];obtain⟨u,hu⟩:∃u,(pc b q j).length=u+1:=⟨(pc b q j).length-1,by have:=Bx.2 hne;omega⟩;rw[hu,FR hne hr];rfl
    subst hfin;have hee:((er:Int) !=0)=true:=(by rw[BT];omega);have hb2:=below_go HH.out.bel (below_go hb1 (below_new w1 (.cells #[.bool false, .slice none 0 0, .slice none 0 0] 109)));obtain⟨f1,f2,c0,c1,c2,e0,e1,e2⟩:=HH.out.cells hb2;have HB2:=ZQ (below_go HH.out.bw hb2);have HRW:=ZQ (Below.row hb2 HH.out.res);clear hb1 hb2 hr hne HC;go_wp2_with fail;have hr:=put3 HRW.out (.bool false) (.slice none 0 0) (.slice none 0 0);refine Aq (Bi results157 _ _ w.heap.size _ _ _ rfl hr) rfl ?_;exact⟨Ch HB2.out (Aa _) _ _ _,rfl,her⟩
   |ok t m=>
    rw[hr]at hm;obtain⟨y,rfl,hy⟩:=hm;have hmn:=OE hr;rw[Jb (by rw[HA.out.l];omega)]at hmn;have hyl:ys.length<=1000000000:=(by have:=HH.out.all.len;omega);obtain⟨it',w3,hrun,s3,I2⟩:=XO HH.out hb1 hy hyl 107;obtain⟨ia',n',ic',rfl⟩:=TW I2.own;have hne:pc b q j≠[]:=by
     intro e;have:=Jb (b:=b) (i:=q) (j:=j) (by rw[HA.out.l];omega);rw[e]at this;simp at this;omega
    have hpre:=OK (f:=rd k) (ts:=ts) (λb t m h=>(OE h).1) hne hr;have hdrop:(pc b q j).drop m=pc b (q+m) j:=(by unfold pc;rw[List.drop_drop]);rw[hdrop,<-HP.out]at hpre;have hb2:=below_go HH.out.bel (below_go hb1 (below_new w1 (.cells #[.bool y.l, .slice y.ba y.bn y.bc, .slice y.ia y.m y.ic] 109)));have hb3:=below_go hb2 (below_new _ (.cells #[.bool y.l, .slice y.ba y.bn y.bc, .slice y.ia y.m y.ic] 109));obtain⟨f1,f2,c0,c1,c2,e0,e1,e2⟩:=HH.out.cells hb2;obtain⟨g1,g2,d0,d1,d2,h0,h1,h2⟩:=HH.out.cells s3;have HRUN:=ZQ hrun;have HI2:=ZQ I2;have HPP:=ZQ hpre;clear hb1 hb2 hb3 hr hne HC hy hrun s3 I2 hpre hdrop;go_wp2_with (first|refine E6 rfl _ _ rfl _ _ rfl rfl HRUN.out ?_);refine⟨⟨q+m,_,_,ts++[t],ys++[y],by simp,by omega,by omega,by rw[Ab];simp;omega,HPP.out,HI2.out⟩,by simp[intOf];omega⟩
  ·have hqe:q=j:=(by omega);subst hqe;have hqi:¬(q:Int)<q:=(by omega);have hfin:=HP.out;rw[Wh (Aa _),Fq]at hfin;simp only[RL.pre,A4]at hfin;subst hfin;obtain⟨ia,ic,hit,q1,q2,q3⟩:=LD (P:=λb=>U.heap.size<=b) HH.out.own (HH.out.all.mono λb hb _=>⟨rfl,hb.1⟩) (λg hg=>(Fs HH.out.own hg).1);subst hit;have HQ:=ZQ q3;clear q3;go_wp2_with fail;have hr:=put3 (Below.row HH.out.bel HH.out.res) (.bool true) (.slice none 0 0) (.slice ia ts.length ic);refine Aq (Bi results157 _ _ w.heap.size _ _ _ rfl hr) rfl ?_;have hs:=HH.out.sz;refine⟨Ch (below_go HH.out.bw HH.out.bel) (Aa _) _ _ _,ia,ic,rfl,q1,q2,?_⟩;exact DU (λb(hb:U.heap.size<=b) hlt=>⟨D3 (by omega) _ _ _,by omega⟩) (λu _=>B6 (λb(hb:U.heap.size<=b) hlt=>⟨D3 (by omega) _ _ _,by omega⟩) u) HQ.out
theorem XP{x:Int}(h:x<128):rd1 g deep (x::r)= .ok (.mk false [x] []) 1:=by
 have e:hdr deep (x::r)= .ok 0 1:=by
  unfold hdr;simp only;rw[Ae (by omega),Ai h]
 unfold rd1;rw[e];simp only;rw[Ai (show(x::r).headD 0<192 by show x<192;omega),Ae (by simp)];rfl
theorem KM(k:Nat)(gg:List Int->R)(hrd:∀b,rd k b=rd1 gg (decide (k=0)) b)(hgg:∀b t m,gg b= .ok t m->1<=m/\m<=b.length)
 (hitems:0<k->∀d,d+k=8->∀(a:Option Addr)(n c:Nat)(b:List Int)(w:World),Ag w a n c b->n<=140737488351232->∀i j:Nat,i<=j->j<=n->j-i<16777216->Calls prog 157 #[.slice a n c, .int .i64 i, .int .i64 j, .int .i64 (d+1:Nat)] w (GPost w j (rdAll gg (pc b i j).length (pc b i j)))):FSaid k:=by
 intro a n c b w h hn i j d hij hj hd;have hdec:decide (k=0)=decide (d=8):=by by_cases h0:k=0<;>simp[h0]<;>omega
 by_cases hlt:i<j
 case neg=>exact QX a n c i j d w k b hlt (by omega) (by rw[Wh (by omega),hrd];exact FA rfl)
 rw[JL hlt (by rw[h.l];omega),hrd,hdec];by_cases h1:b.getD i 0<128
 ·exact QY a n c i j d w b h hn hlt hj _ rfl h1 _ (XP h1)
 by_cases h2:b.getD i 0<192
 ·exact P8 gg a n c i j d w b h hn hlt hj (by omega) _ rfl (by omega) h2 _ rfl
 by_cases h8:d=8
 ·subst h8;exact P7 a n c i j w b h hn hlt hj _ rfl (by omega) _ (FA (by rw[AT rfl];exact OM (by omega)))
 ·exact P9 gg a n c i j d w b h hn hlt hj (by omega) _ rfl (by omega) (by omega) (hitems (by omega) d hd) hgg _ rfl
theorem Mp:∀k,FSaid k
 |0=>KM 0 (λ_=> .bad 21) (λb=>rfl) (λb t m h=>by cases h) (λh=>absurd h (by omega))
 |k+1=>KM (k+1) (rd k) (λb=>rfl) (λb t m h=>OE h) (λ_ d hd a n c b w h hn i j hij hj hl=>QZ k (Mp k) a n c b w h hn i j (d+1) hij hj hl (by omega))
theorem Ra(a:Option Addr)(n c:Nat)(b:List Int)(w:World)(h:Ag w a n c b)(hn:n<=140737488351232):Calls prog 134 #[.slice a n c] w (ReadPost w (rd 8 b)):=by
 have hpcb:pc b 0 n=b:=by unfold pc;rw[Cw,A8 (by rw[h.l];exact Aa _)]
 have hcal:=λw'(hb:Below w.heap.size w w')=>Mp 8 a n c b w' (h.at hb) hn 0 n 0 (AD _) (Aa _) rfl;rw[hpcb,show((0:Nat):Int)=0 from rfl]at hcal;clear hpcb;have HCAL:=ZQ hcal;obtain⟨res,hres⟩:∃r,rd 8 b=r:=⟨_,rfl⟩;rw[hres]at HCAL⊢;clear hcal h hres;go_enter func134,ntmps134;go_wp2_with fail;refine(HCAL.out _ ((Ak _ _).alloc (Aa _) _)).mono ?_;rintro e w1⟨hb,hm⟩;have hres1:w1.heap[w.heap.size]?=some (.cells #[.bool false, .slice none 0 0, .slice none 0 0] 109):=Below.row hb (Aj _ _);have hb1:Below w.heap.size w w1:=((Ak w.heap.size w).alloc (Aa _) _).trans (hb.mono (by simp));have x0:w1.cell? ⟨w.heap.size,0,none⟩=some (.bool false):=by rw[Ad _ _ _ _ _ _ hres1];rfl
 have x1:w1.cell? ⟨w.heap.size,1,none⟩=some (.slice none 0 0):=by rw[Ad _ _ _ _ _ _ hres1];rfl
 have x2:w1.cell? ⟨w.heap.size,2,none⟩=some (.slice none 0 0):=by rw[Ad _ _ _ _ _ _ hres1];rfl
 have xf:∀o,w1.frozen? ⟨w.heap.size,o,none⟩=false:=λo=>AY _ _ _ _ _ hres1;have HR:=ZQ hres1;have HB1:=ZQ hb1;clear hres1 hb hb1;cases res with
 |bad er=>
  obtain⟨rfl,her⟩:=hm;go_wp2_with fail;have hr:=put3 HR.out (.bool false) (.slice none 0 0) (.slice none 0 0);refine Aq (Bi results134 _ _ w.heap.size _ _ _ rfl hr) rfl ?_;exact⟨Ch HB1.out (Aa _) _ _ _,rfl,her⟩
 |ok t m=>
  obtain⟨y,rfl,hy⟩:=hm;rw[AM];have HY:=ZQ hy;clear hy;go_wp2_with fail;have hr:=put3 HR.out (.bool y.l) (.slice y.ba y.bn y.bc) (.slice y.ia y.m y.ic);refine Aq (Bi results134 _ _ w.heap.size _ _ _ rfl hr) rfl ?_;refine⟨Ch HB1.out (Aa _) _ _ _,y,rfl,B6 (λb hb hlt=>?_) t y HY.out⟩;have hb':w.heap.size+1<=b:=by have:(w.alloc (.cells #[.bool false, .slice none 0 0, .slice none 0 0] 109)).heap.size<=b:=hb;simpa using this
  exact⟨D3 (by omega) _ _ _,by omega⟩
theorem KN(a:Option Addr)(n c:Nat)(b:List Int)(w:World)(h:Ag w a n c b)(hn:n<=140737488351232):Calls prog 96 #[.slice a n c] w (DecPost w (decP b)):=by
 have hcal:=λw'(hb:Below w.heap.size w w')=>Ra a n c b w' (h.at hb) hn;have HCAL:=ZQ hcal;have hl:=h.l;obtain⟨res,hres⟩:∃r,decP b=r:=⟨_,rfl⟩;rw[hres];unfold decP at hres;have HRES:=ZQ hres;have HL:=ZQ hl;clear hcal h hres hl;go_enter func96,ntmps96;go_wp2_with fail;refine(HCAL.out _ ((Ak _ _).alloc (Aa _) _)).mono ?_;rintro e w1⟨hb,hm⟩;have RB:=(Rb.new w).call hb;clear hb;have hres:=HRES.out;cases hrd:rd 8 b with
 |bad er=>
  rw[hrd]at hm hres;obtain⟨rfl,her⟩:=hm;subst hres;have hee:((er:Int) !=0)=true:=by rw[BT];omega
  clear hrd
  go_upto_if 14 with fail
  refine gen_w (p:=λv=>Code.wp _ _ _ _ v) (q:=λv=>Rb w v/\v.heap[w1.heap.size]?=some (.cells #[.bool false, .slice none 0 0, .slice none 0 0] 109)) ⟨RB.alloc _,Aj _ _⟩ ?_;clear RB;rintro v⟨RV,hyv⟩;have x0:=RV.x0;have x1:=RV.x1;have x2:=RV.x2;have xf:=RV.xf;have u0:v.cell? ⟨w1.heap.size,0,none⟩=some (#[.bool false, .slice none 0 0, .slice none 0 0][0]):=by rw[Ad _ _ _ _ _ _ hyv];rfl
  have u1:v.cell? ⟨w1.heap.size,1,none⟩=some (#[.bool false, .slice none 0 0, .slice none 0 0][1]):=by rw[Ad _ _ _ _ _ _ hyv];rfl
  have u2:v.cell? ⟨w1.heap.size,2,none⟩=some (#[.bool false, .slice none 0 0, .slice none 0 0][2]):=by rw[Ad _ _ _ _ _ _ hyv];rfl
  have HRV:=ZQ RV;clear RV hyv;go_wp2_with fail;have hr:=put3 HRV.out.row (.bool false) (.slice none 0 0) (.slice none 0 0);refine Aq (EI results96 _ _ w.heap.size _ _ _ rfl hr) rfl ?_;exact⟨Ch HRV.out.bel (Aa _) _ _ _,rfl,her⟩
 |ok t m=>
  rw[hrd]at hm hres;simp only[HL.out]at hres;obtain⟨y,rfl,hy⟩:=hm;have HY:Hid (∀o,LiesP (λb=>w.heap.size+1<=b) (w1.alloc o) t y):=λo=>B6 (λb hb hlt=>⟨Az _ _ _ hlt,by have:(w.alloc (.cells #[.bool false, .slice none 0 0, .slice none 0 0] 109)).heap.size<=b:=hb;simpa using this⟩) t y hy;clear hy;by_cases hmn:m<n
  ·rw[Ai hmn]at hres;subst hres;have hmi:(m:Int)<n:=(by omega);clear hrd
   go_upto_if 14 with fail
   refine gen_w (p:=λv=>Code.wp _ _ _ _ v) (q:=λv=>Rb w v/\v.heap[w1.heap.size]?=some (.cells #[.bool y.l, .slice y.ba y.bn y.bc, .slice y.ia y.m y.ic] 109)/\Hid (LiesP (λb=>w.heap.size+1<=b) v t y)) ⟨RB.alloc _,Aj _ _,HY.out _⟩ ?_;clear RB HY;rintro v⟨RV,hyv,HY⟩;have x0:=RV.x0;have x1:=RV.x1;have x2:=RV.x2;have xf:=RV.xf;have u0:v.cell? ⟨w1.heap.size,0,none⟩=some (#[.bool y.l, .slice y.ba y.bn y.bc, .slice y.ia y.m y.ic][0]):=(by rw[Ad _ _ _ _ _ _ hyv];rfl);have u1:v.cell? ⟨w1.heap.size,1,none⟩=some (#[.bool y.l, .slice y.ba y.bn y.bc, .slice y.ia y.m y.ic][1]):=(by rw[Ad _ _ _ _ _ _ hyv];rfl);have u2:v.cell? ⟨w1.heap.size,2,none⟩=some (#[.bool y.l, .slice y.ba y.bn y.bc, .slice y.ia y.m y.ic][2]):=(by rw[Ad _ _ _ _ _ _ hyv];rfl);have HRV:=ZQ RV;clear RV hyv;go_wp2_with fail;have hr:=put3 HRV.out.row (.bool false) (.slice none 0 0) (.slice none 0 0);refine Aq (EI results96 _ _ w.heap.size _ _ _ rfl hr) rfl ?_;exact⟨Ch HRV.out.bel (Aa _) _ _ _,rfl,by decide⟩
  ·rw[Ae hmn]at hres;subst hres;have hmi:¬(m:Int)<n:=(by omega);clear hrd
   go_upto_if 14 with fail
   refine gen_w (p:=λv=>Code.wp _ _ _ _ v) (q:=λv=>Rb w v/\v.heap[w1.heap.size]?=some (.cells #[.bool y.l, .slice y.ba y.bn y.bc, .slice y.ia y.m y.ic] 109)/\Hid (LiesP (λb=>w.heap.size+1<=b) v t y)) ⟨RB.alloc _,Aj _ _,HY.out _⟩ ?_;clear RB HY;rintro v⟨RV,hyv,HY⟩;have x0:=RV.x0;have x1:=RV.x1;have x2:=RV.x2;have xf:=RV.xf;have u0:v.cell? ⟨w1.heap.size,0,none⟩=some (#[.bool y.l, .slice y.ba y.bn y.bc, .slice y.ia y.m y.ic][0]):=(by rw[Ad _ _ _ _ _ _ hyv];rfl);have u1:v.cell? ⟨w1.heap.size,1,none⟩=some (#[.bool y.l, .slice y.ba y.bn y.bc, .slice y.ia y.m y.ic][1]):=(by rw[Ad _ _ _ _ _ _ hyv];rfl);have u2:v.cell? ⟨w1.heap.size,2,none⟩=some (#[.bool y.l, .slice y.ba y.bn y.bc, .slice y.ia y.m y.ic][2]):=(by rw[Ad _ _ _ _ _ _ hyv];rfl);have HRV:=ZQ RV;clear RV hyv;go_wp2_with fail;have hr:=put3 HRV.out.row (.bool y.l) (.slice y.ba y.bn y.bc) (.slice y.ia y.m y.ic);refine Aq (EI results96 _ _ w.heap.size _ _ _ rfl hr) rfl ?_;refine⟨Ch HRV.out.bel (Aa _) _ _ _,y,rfl,B6 (λb(hb:w.heap.size+1<=b) hlt=>⟨D3 (by omega) _ _ _,by omega⟩) t y HY.out⟩
end Go.Proofs.YtefhepcplempkaaGreat
