/- Of a tree in normal form every node is right, and its bytes are read as that node; each key's path has a key. -/
import Derived.Test.YtefhepcplempkaaGreatAK
import Derived.Test.YtefhepcplempkaaGreatG11
import Derived.Test.YtefhepcplempkaaGreatG14
import Derived.Test.YtefhepcplempkaaGreatG17
import Derived.Test.YtefhepcplempkaaGreatG16
import Derived.Test.YtefhepcplempkaaGreatG12
import Derived.Test.YtefhepcplempkaaGreatG01
import Derived.Test.YtefhepcplempkaaGreatG00
set_option linter.unusedVariables false
set_option maxRecDepth 100000
set_option maxHeartbeats 4000000
open Go.Proofs.Tryz Go.RowKit
namespace Go.Proofs.YtefhepcplempkaaGreat
open Tr
open Ni (unpP packP rightP)
def Vb:Tr->Prop
 |no=>True
 |leaf p v=>isB p/\isB v/\v.length<=256
 |ext p c=>isB p/\Vb c
 |br k v=>(isB v/\v.length<=256)/\∀i,i<16->Vb (k i)
theorem TA.vb{K:Nat->Prop}{w:World}:∀{t:Tr}{v:Value},TA K w t v->Vb t:=by
 intro t
 induction t with
 |no=>intro v h;trivial
 |leaf p x=>rintro v⟨a,n,c,a',n',c',h1,h2,h3,h4⟩;exact⟨h2.ag.b,h3.ag.b,by rw[h3.ag.l];exact h4⟩
 |ext p t ih=>rintro v⟨a,n,c,u,h1,h2,h3⟩;exact⟨h2.ag.b,ih h3⟩
 |br k x ih=>rintro v⟨vs,a,n,c,h1,h2,h3,h4⟩;exact⟨⟨h3.ag.b,by rw[h3.ag.l];exact h4⟩,λi hi=>ih i (h2 i hi)⟩
structure Wn(n:PN):Prop where
 ok:okN n
 r:NR n=true
 y:byt (itemP n)
def Kys(p:List Int)(t:Tr):Prop:=Nb p/\∀q,Nb q->Tr.get t q≠[]->∃k,Byk k/\k.length<=32/\p++q=Ni.nib k
end Go.Proofs.YtefhepcplempkaaGreat
namespace Go.Proofs.YtefhepcplempkaaGreat
open Tr
variable {B : Nat}
def NDQ(kp pre:List Int)(t:Tr):Prop:=∀{v:World}{gW base:Nat}{vM:Value}{Y Z:Nat->Prop}{ns:List (List Int)}{a ap:Option Addr}{n c np cp dp:Nat}{vs:List (Value×Value)},Wp v gW (.slice ap np cp) base vM Y ns->PAt (KW gW vM Z) v a n c vs (entN pre t)->Sk (KW gW vM Z) v ap np cp kp->(∀b,v.heap.size<=b->Y b)->(ns++wyN kp t pre).length+1<=8800000000000->n<=5000000000000->np<=1000->dp=pre.length->(∀e∈entN pre t,e.1.length<=1000)->Calls prog 56 #[.pointer (some ⟨gW,0,none⟩), .slice a n c, .int .i64 (dp:Int)] v λe w'=>∃u,e= .returned u/\RNp v gW (.slice ap np cp) base vM Y ns kp pre t u w'
def ENQ(kp pre:List Int)(t:Tr):Prop:=∀{v:World}{gW base:Nat}{vM:Value}{Y Z:Nat->Prop}{ns:List (List Int)}{a ap:Option Addr}{n c np cp dp:Nat}{vs:List (Value×Value)},Wp v gW (.slice ap np cp) base vM Y ns->PAt (KW gW vM Z) v a n c vs (entN pre t)->Sk (KW gW vM Z) v ap np cp kp->(∀b,v.heap.size<=b->Y b)->(ns++wyN kp t pre).length+1<=8800000000000->n<=5000000000000->np<=1000->dp=pre.length->(∀e∈entN pre t,e.1.length<=1000)->Calls prog 29 #[.pointer (some ⟨gW,0,none⟩), .slice a n c, .int .i64 (dp:Int)] v λe w'=>∃u,e= .returned u/\REp v gW (.slice ap np cp) base vM Y ns kp pre t u w'
theorem QM{kp pre:List Int}{t:Tr}(hne:t≠no)(h:NDQ kp pre t):ENQ kp pre t:=λh1 h2 h3 h4 h5 h6 h7 h8 h9=>XE hne (h h1 h2 h3 h4 h5 h6 h7 h8 h9)
theorem Wb{kp pre:List Int}{t:Tr}(hO:Tr.Ok B t)(h:ENQ kp pre t):RFQ kp pre t:=λ{v gW base vM Y Z ns a ap n c np cp dp vs} h1 h2 h3 h4 h5 h6 h7 h8 h9=>by
 have hn0:0<n:=by rw[<-h2.ll,Gl];exact Bx.2 (FQ _ hO)
 by_cases hsh:(encT t).length<32
 ·exact Oq h1 h2 h3 h7 h9 hn0 h8 h4 (λw hb Y' hw hy=>h hw (h2.go hb) (h3.go hb) hy h5 h6 h7 h8 h9) h5 hsh
 ·by_cases hon:kp.take pre.length=pre
  ·exact TO h1 h2 h3 h7 h9 hn0 h8 h4 (λw hb Y' hw hy=>h hw (h2.go hb) (h3.go hb) hy h5 h6 h7 h8 h9) h5 hsh hon
  ·exact QJ h1 h2 h3 h7 h9 hn0 h8 h4 (λw hb Y' hw hy=>h hw (h2.go hb) (h3.go hb) hy h5 h6 h7 h8 h9) h5 hsh hon
theorem XH(kp:List Int):∀(t:Tr){B:Nat},Tr.Ok B t->Vb t->∀pre,NDQ kp pre t:=by
 intro t
 induction t with
 |no=>intro B h;exact h.elim
 |leaf q x=>
  intro B hO hV pre v gW base vM Y Z ns a ap n c np cp dp vs h1 h2 h3 h4 h5 h6 h7 h8 h9;exact QK h1 h2 h9 h8 (by have:=hV.2.2;omega)
 |ext q c ih=>
  intro B hO hV pre v gW base vM Y Z ns a ap n c' np cp dp vs h1 h2 h3 h4 h5 h6 h7 h8 h9;obtain⟨o1,o2,o3,o4,o5⟩:=hO;cases c with
  |no=>cases o4
  |leaf _ _=>cases o4
  |ext _ _=>cases o4
  |br k x=>
   have hn2:2<=n:=(by rw[<-h2.ll,Im,Gl];exact Om o5);refine TP h1 h2 h9 h8 o5 o2 hn2 h6 h4 (λw hb Y' hw hy=>?_);rw[Im]at h2 h9;refine Wb o5 (QM (by simp) (ih o5 hV.2 (pre++q))) hw (h2.go hb) (h3.go hb) hy ?_ h6 h7 (by rw[Ab]) h9;simp only[wyN,Ab]at h5⊢;omega
 |br k x ih=>
  intro B hO hV pre v gW base vM Y Z ns a ap n c np cp dp vs h1 h2 h3 h4 h5 h6 h7 h8 h9;have hn2:2<=n:=by rw[<-h2.ll,Gl];exact Om hO
  refine VX h1 h2 h9 h8 hO hn2 h6 h4 (λw hb Y' hw hy Q hQ1 hQ2=>?_);have hl:PAt (KW gW vM (λb=>b<v.heap.size)) v a n c vs (entN pre (br k x)):=h2.old.mono (λb hb=>⟨hb.1.1,hb.1.2.1,hb.2⟩);have hk:Sk (KW gW vM (λb=>b<v.heap.size)) v ap np cp kp:=⟨h3.ag,λy hy hn=>⟨(h3.k y hy hn).1,(h3.k y hy hn).2.1,h3.old hy hn⟩⟩;refine XG hw (hl.go hb) (hk.go hb) h7 h9 hO hn2 h6 (by have:=hV.1.2;omega) h8 hy hQ1 hQ2 (λi hi=>?_) h5;rcases hO.1 i with q|⟨q1,q2,q3⟩
  ·exact .inl q
  ·exact .inr (Wb q3 (QM q3.ne (ih i q3 (hV.2 i hi) _)))
theorem XI{kp:List Int}{t:Tr}(hO:Tr.Ok B t)(hV:Vb t)(pre:List Int):ENQ kp pre t:=QM hO.ne (XH kp t hO hV pre)
end Go.Proofs.YtefhepcplempkaaGreat
namespace Go.Proofs.YtefhepcplempkaaGreat
open Tr
open Di (dref)
variable {q : Bool} {K : Nat → Prop} {w w' : World} {a : Option Addr} {n c base gL d : Nat} {M : List (List Int)} {b : List Int}
def Gq(q:Bool)(w:World)(a:Option Addr)(n:Nat):Prop:=q=true->Wq w a n
theorem Gq.at{bs:List Int}(h:Gq q w a n)(hs:Sk K w a n c bs)(hk:∀b,K b->b<w.heap.size->w'.heap[b]?=w.heap[b]?):Gq q w' a n:=λe=>(h e).at hs hk
theorem Gq.go{bs:List Int}(h:Gq q w a n)(hs:Sk K w a n c bs)(hb:Below w.heap.size w w'):Gq q w' a n:=h.at hs (λb _ hl=>hb.block b hl)
theorem Gq.no(w:World)(a:Option Addr)(n:Nat):Gq false w a n:=λe=>by cases e
def Ge(q:Bool)(K:Nat->Prop)(w:World)(u:Value)(b:List Int):Prop:=∃a n c,u= .slice a n c/\Sk K w a n c b/\Gq q w a n
def OwnS(q:Bool)(w:World)(base:Nat)(v:Value)(M:List (List Int)):Prop:=∃us:List Value,us.length=M.length/\w.ownsRow base 23 1 v M.length us/\∀(j:Nat)(u:Value)(b:List Int),us[j]?=some u->M[j]?=some b->Ge q (λg=>v.ownBlock≠some g/\base<=g) w u b
theorem OwnS.none(q:Bool)(w:World)(base:Nat):OwnS q w base (.slice none 0 0) []:=⟨[],rfl,CH w base _ 1,λj u b q=>by simp at q⟩
theorem OwnS.own{v:Value}(h:OwnS q w base v M):∀k,v.ownBlock=some k->base<=k/\k<w.heap.size:=by
 obtain⟨us,h1,⟨h2,h3⟩,h4⟩:=h;intro k hk;rcases h3 with⟨rfl,_⟩|⟨g,cap,cur,rfl,hbg,hg,_⟩
 ·simp[Value.ownBlock]at hk
 ·simp only[Value.ownBlock,C5]at hk;subst hk;exact⟨hbg,lt_of_get hg⟩
theorem OwnS.far{v:Value}(h:OwnS q w base v M)(hb:Below w.heap.size w w'):OwnS q w' base v M:=by
 obtain⟨us,h1,⟨h2,h3⟩,h4⟩:=h;refine⟨us,h1,⟨h2,?_⟩,λj u b q1 q2=>?_⟩
 ·rcases h3 with q|⟨g,cap,cur,e1,e2,e3,e4⟩
  ·exact .inl q
  ·exact .inr ⟨g,cap,cur,e1,e2,(hb.block g (lt_of_get e3)).trans e3,e4⟩
 ·obtain⟨a,n,c,e1,e2,e3⟩:=h4 j u b q1 q2;exact⟨a,n,c,e1,e2.go hb,e3.go e2 hb⟩
theorem OwnS.bt{v:Value}(h:OwnS q w base v M):∃a c,v= .slice a M.length c/\Bt (λ_=>True) w a M.length M/\M.length<=c:=by
 obtain⟨us,h1,⟨h2,h3⟩,h4⟩:=h;rcases h3 with⟨rfl,h5⟩|⟨g,cap,cur,rfl,hbg,hg,hc1,hc2,hc3,hc4⟩
 ·exact⟨Option.none,0,by rw[h5],⟨rfl,λj hj=>by omega⟩,by omega⟩
 ·refine⟨_,cap,rfl,⟨rfl,λj hj=>?_⟩,hc1⟩;obtain⟨u,hu⟩:∃u,us[j]?=some u:=⟨_,Ac (by omega)⟩;obtain⟨a,n,c,e1,e2,_⟩:=h4 j u M[j] hu (Ac hj);refine⟨g,0,a,n,c,rfl,?_,?_⟩
  ·rw[Ad _ _ _ _ _ _ hg,AM,BS,<-e1];rw[<-hc4,AO (by omega)]at hu;rw[<-Co];exact hu
  ·rw[show M.getD j []=M[j]from by simp[List.getD,hj]];exact e2.mono (λ_ _=>trivial)
def Ap(a:Option Addr)(b:Nat):Prop:=∀x,a=some x->b≠x.block
theorem OwnS.ap(h:OwnS q w base (.slice a n c) M):(∀x,a=some x->base<=x.block/\x.block<w.heap.size)/\∀b,Ap a b↔(Value.slice a n c).ownBlock≠some b:=by
 obtain⟨us,h1,⟨h2,h3⟩,h4⟩:=h;rcases h3 with⟨e,_⟩|⟨g,cap,cur,e,hbg,hg,_⟩
 ·injection e with e1 e2 e3;subst e1;exact⟨λx hx=>by(cases hx),λb=>⟨λ_=>by simp[Value.ownBlock],λ_ x hx=>by(cases hx)⟩⟩
 ·injection e with e1 e2 e3;subst e1;refine⟨λx hx=>by cases hx;exact⟨hbg,lt_of_get hg⟩,λb=>⟨λh=>by simp only[Value.ownBlock,ne_eq,C5];exact λe=>h _ rfl e.symm,λh x hx=>by cases hx;intro e;exact h (by simp only[Value.ownBlock,C5];exact e.symm)⟩⟩
theorem Z4{v:Value}(hown:OwnS q w base v M)(hL:Rw gL w #[.slice a n d] 23)(hs:Sk K w a n d b)(hq:Gq q w a n)(hK:∀b,K b->v.ownBlock≠some b/\base<=b)(hlen:M.length+1<=5864062014800)(hbase:base<=w.heap.size):
 ∃v' w',(∀ty,(Builtin.append_ #[28,28] ty #[v, .slice (some ⟨gL,0,none⟩) 1 c]).run prog w= .ok v' w')/\OwnS q w' base v' (M++[b])/\Below base w w'/\(∀g,g<w.heap.size->v.ownBlock≠some g->w'.heap[g]?=w.heap[g]?)/\(v'.ownBlock=v.ownBlock∨∀g,v'.ownBlock=some g->w.heap.size<=g):=by
 obtain⟨i,hi,hz,hsz,hby⟩:=VI;have hOw:=hown.own;obtain⟨us,h1,h2,h4⟩:=id hown
 obtain⟨v',w',r1,r2,r3,_,r5⟩:=run_append_own_at (P:=prog) w base 28 0 23 i _ 1 24 underlying28 hi hz hsz hby rfl (by decide) v M.length us h2 ⟨gL,0,none⟩ 1 c [.slice a n d] rfl (λj u hj=>by
  cases j with
  |zero=>rw[BO,Ad _ _ _ _ _ _ hL];exact hj
  |succ j=>simp at hj) (λu hu=>by rw[DK.1 hu];rfl) (by unfold maxLen;omega) (by omega) hbase
 have hkeep:∀{K':Nat->Prop}{u:Value}{b:List Int},(∀b,K' b->v.ownBlock≠some b/\base<=b)->Ge q K' w u b->Ge q (λg=>v'.ownBlock≠some g/\base<=g) w' u b:=by
  rintro K' u b hK'⟨a,n,c,q1,hs,hq⟩;refine⟨a,n,c,q1,⟨⟨?_,hs.ag.nil,hs.ag.l,hs.ag.b⟩,λx hx hn=>?_⟩,hq.at hs (λb hb hl=>r3.block b hl (λe=>(hK' _ hb).1 e.symm))⟩
  ·rcases hs.ag.i with q|⟨gb,off,q1,q2,q3,q4,q5,q7⟩
   ·exact .inl q
   ·refine .inr ⟨gb,off,q1,q2,q3,q4,q5,λj hj=>?_⟩;rw[<-q7 j hj];exact Ay (r3.block gb (Af (q7 j hj)) (λe=>(hK' _ (hs.k _ q1 q3)).1 e.symm))
  ·refine⟨?_,(hK' _ (hs.k x hx hn)).2⟩;rcases r5 with q|q
   ·rw[q];exact(hK' _ (hs.k x hx hn)).1
   ·rw[q];intro e;have:=hs.old hx hn;simp at e;omega
 refine⟨v',w',λty=>r1,⟨us++[.slice a n d],by simp[h1],?_,λj u b' q1 q2=>?_⟩,(Ak _ _).grown r3 hbase (λk hk=>(hOw k hk).1),λg hg hv=>r3.block g hg (λe=>hv e.symm),r5.imp id (λq g hg=>by rw[q]at hg;simp at hg;omega)⟩
 ·rw[Ab];exact r2
 ·by_cases hj:j<us.length
  ·rw[AV hj]at q1;rw[AV (by omega)]at q2;exact hkeep (λb hb=>hb) (h4 j u b' q1 q2)
  ·have hj2:j=us.length:=by
    have:=(Aw.1 q1).1;rw[Ab,Cp]at this;omega
   subst hj2;rw[AS (Aa _),Cc]at q1;rw[h1,AS (Aa _),Cc]at q2;simp at q1 q2;subst q1;subst q2;exact hkeep hK ⟨a,n,d,rfl,hs,hq⟩
theorem ZG{aO:Option Addr}{cO:Nat}(hown:OwnS q w base (.slice aO M.length cO) M)(hL:Rw gL w #[.slice a n d] 23)(hs:Sk K w a n d b)(hq:Gq q w a n)(hK:∀b,K b->Ap aO b/\base<=b)(hlen:M.length+1<=5864062014800)(hbase:base<=w.heap.size):
 ∃aX cX w',(∀ty,(Builtin.append_ #[28,28] ty #[.slice aO M.length cO, .slice (some ⟨gL,0,none⟩) 1 c]).run prog w= .ok (.slice aX (M++[b]).length cX) w')/\OwnS q w' base (.slice aX (M++[b]).length cX) (M++[b])/\Below base w w'/\Keep (Ap aO) (Ap aX) w w':=by
 have hap:=hown.ap.2;obtain⟨v',w',h1,h2,h3,h4,h5⟩:=Z4 (c:=c) hown hL hs hq (λb hb=>⟨(hap b).1 (hK b hb).1,(hK b hb).2⟩) hlen hbase;obtain⟨aX,cX,rfl,_,_⟩:=h2.bt;refine⟨aX,cX,w',h1,h2,h3,λg hg hl=>⟨h4 g hl ((hap g).1 hg),?_⟩⟩;rw[h2.ap.2];rcases h5 with e|e
 ·rw[e];exact(hap g).1 hg
 ·intro q;have:=e g q;omega
theorem OwnS.up{v:Value}(h:OwnS q w base v M)(hk:∀b,base<=b->b<w.heap.size->w'.heap[b]?=w.heap[b]?):OwnS q w' base v M:=by
 obtain⟨us,h1,⟨h2,h3⟩,h4⟩:=h;refine⟨us,h1,⟨h2,?_⟩,λj u b q1 q2=>?_⟩
 ·rcases h3 with q|⟨g,cap,cur,e1,e2,e3,e4⟩
  ·exact .inl q
  ·exact .inr ⟨g,cap,cur,e1,e2,(hk g e2 (lt_of_get e3)).trans e3,e4⟩
 ·obtain⟨a,n,c,e1,e2,e3⟩:=h4 j u b q1 q2;exact⟨a,n,c,e1,e2.keep (λg hg hl=>⟨hk g hg.2 hl,hg⟩),e3.at e2 (λg hg hl=>hk g hg.2 hl)⟩
end Go.Proofs.YtefhepcplempkaaGreat
namespace Go.Proofs.YtefhepcplempkaaGreat
open Tr
variable {w : World} {g n i c base gW : Nat} {us : List Value} {PV vN : Value} {K K1 : Nat → Prop} {L : PList} {a : Option Addr} {k : List Int}
def rvn(n i p:Nat):Nat:=if p<i∨n-i<=p then n-1-p else p
structure RvI(w:World)(g n cap:Nat)(us:List Value)(i:Nat)(v:World):Prop where
 row:∃cur:Array Value,v.heap[g]?=some (.cells cur 23 (0,0))/\cur.size=cap/\∀p,p<n->cur[p]?=us[rvn n i p]?
 ot:∀k,k≠g->v.heap[k]?=w.heap[k]?
 os:v.os=w.os
 tape:v.tape=w.tape
 output:v.output=w.output
 size:v.heap.size=w.heap.size
theorem RvI.drew{cap:Nat}{v:World}(h:RvI w g n cap us i v)(ht:v.drew.tape=w.tape):RvI w g n cap us i v.drew:=⟨h.row,h.ot,h.os,ht,h.output,h.size⟩
theorem Sw{v w1 w2:World}{cap:Nat}{cur:Array Value}{ui uj:Value}(hI:RvI w g n cap us i v)(hij:2*i+1<n)(hrow:v.heap[g]?=some (.cells cur 23 (0,0)))(hcs:cur.size=cap)(hcu:∀p,p<n->cur[p]?=us[rvn n i p]?)(hui:us[i]?=some ui)(huj:us[n-1-i]?=some uj)(hnc:n<=cap)(hrow2:Rw g w2 ((cur.setIfInBounds (0+i*1) uj).setIfInBounds (0+(n-1-i)*1) ui) 23){o1 o2:Nat}(hs1:Set1 v w1 g o1 uj)(hs2:Set1 w1 w2 g o2 ui):RvI w g n cap us (i+1) w2:=by
 rw[AM,BS,AM,BS]at hrow2;refine⟨⟨_,hrow2,by simp[hcs],λp hp=>?_⟩,λk hk=>(hs2.other hk).trans ((hs1.other hk).trans (hI.ot k hk)),hs2.touch.os.trans (hs1.touch.os.trans hI.os),hs2.touch.tape.trans (hs1.touch.tape.trans hI.tape),hs2.touch.output.trans (hs1.touch.output.trans hI.output),hs2.size.trans (hs1.size.trans hI.size)⟩;have hcp:∀q,q<n->q<cur.size:=λq hq=>by omega
 rw[D5,Array.size_setIfInBounds];by_cases h1:n-1-i=p
 ·rw[Ai h1,Ai (hcp _ (by omega)),show rvn n (i+1) p=i from by unfold rvn;rw[Ai (by omega)];omega];exact hui.symm
 ·rw[Ae h1,D5];by_cases h2:i=p
  ·rw[Ai h2,Ai (hcp _ (by omega)),show rvn n (i+1) p=n-1-i from by unfold rvn;rw[Ai (by omega)];omega];exact huj.symm
  ·rw[Ae h2,hcu p hp];congr 1;unfold rvn;by_cases h3:p<i∨n-i<=p
   ·rw[Ai h3,Ai (by omega)]
   ·rw[Ae h3,Ae (by omega)]
theorem XJ{cap:Nat}(hul:us.length=n)(hus:∀u∈us,∃a m d,u= .slice a m d)(hnb:n<=8800000000000)(hnc:n<=cap)(hI:RvI w g n cap us 0 w):
 Calls prog 30 #[.slice (some ⟨g,0,none⟩) n c] w λe w'=>∃u,e= .returned u/\(λ_ w'=>∃i,RvI w g n cap us i w'/\n<=2*i+1) u w':=by
 refine EO func30 28<|Hw 4 (.int .i64 (IntKind.i64.wrap ((n:Int)-1))) (.int .i64 ((n:Int)-1-((0:Nat):Int))) (Au (Value.int .i64) (by rw[Ec (by omega) (by omega)];omega))<|Ho (X:=Nat) 5 (λi=>[(2, .int .i64 (i:Int)),(3, .int .i64 ((n:Int)-1-(i:Int))),(0, .slice (some ⟨g,0,none⟩) n c)]) (λi v=>RvI w g n cap us i v/\2*i<=n+1) (λi=>n-i) 0 ⟨hI,by omega⟩ ?_;clear hI;rintro i v⟨hI,hi⟩ I1 hN1;by_cases hij:2*i+1<n
 ·skip
  obtain⟨cur,hrow,hcs,hcu⟩:=hI.row;obtain⟨ui,hui⟩:∃u,us[i]?=some u:=⟨_,Ac (by omega)⟩;obtain⟨uj,huj⟩:∃u,us[n-1-i]?=some u:=⟨_,Ac (by omega)⟩;have hci:cur[i]?=some ui:=by rw[hcu i (by omega),<-hui];unfold rvn;rw[Ae (by omega)]
  have hcj:cur[n-1-i]?=some uj:=by rw[hcu _ (by omega),<-huj];unfold rvn;rw[Ae (by omega)]
  obtain⟨ai,ni,ci,rfl⟩:=hus ui (A6 hui);obtain⟨aj,nj,cj,rfl⟩:=hus uj (A6 huj);refine Ht 5 ((i:Int)<((n:Int)-1-(i:Int):Int))<|Hj 7 (λv=>True) (trivial) ?_;replace hrow:v.drew.heap[g]?=some (.cells cur 23 (0,0)):=hrow;replace hI:=hI.drew hI.tape;refine Dx [0,1,2,3,4,5] 6 (og f30 3 6) (.pointer (some ⟨g,0+(n-1-i)*1,none⟩)) (λv hv _=>Fy (kd:= .i64) (i:=(n:Int)-1-(i:Int)) 28 _ _ g 0 (n-1-i) n c 1 23 rfl (by kernel_rfl) (by kernel_rfl) (by omega) (by omega) underlying28 (by kernel_rfl)) trivial<|Dx [8,9] 10 (og f30 3 10) (.pointer (some ⟨g,0+i*1,none⟩)) (λv hv _=>Bh 28 _ _ g 0 i n c 1 23 rfl (by kernel_rfl) (by kernel_rfl) (by omega) underlying28 (by kernel_rfl)) trivial<|Dz [7,11] ?_;refine Yx 7 (og f30 3 7) (.slice aj nj cj) (λ_=>AA 23 _ ⟨g,0+(n-1-i)*1,none⟩ _ _ rfl (by kernel_rfl) (by rw[Ad _ _ _ _ _ _ hrow,AM,BS];exact hcj) underlying23 rfl) trivial ?_ ?_
  ·skip
   refine Dz [11] ?_;refine Yx 11 (og f30 3 11) (.slice ai ni ci) (λ_=>AA 23 _ ⟨g,0+i*1,none⟩ _ _ rfl (by kernel_rfl) (by rw[Ad _ _ _ _ _ _ hrow,AM,BS];exact hci) underlying23 rfl) trivial ?_ yn;refine Dx [] 12 (og f30 3 12) (.pointer (some ⟨g,0+i*1,none⟩)) (λv hv _=>Bh 28 _ _ g 0 i n c 1 23 rfl (by kernel_rfl) (by kernel_rfl) (by omega) underlying28 (by kernel_rfl)) trivial<|Dz [13] ?_;refine Ya 13 (og f30 3 13) g (0+i*1) (.slice aj nj cj) (λ_=>D8 23 _ _ g (0+i*1) _ 23 _ hrow rfl (by kernel_rfl) (by kernel_rfl) (by simp;omega) rfl rfl (by kernel_rfl)) (λ_ _=>trivial) ?_ yn;intro w1 hs1;have hrow1:Rw g w1 (cur.setIfInBounds (0+i*1) (.slice aj nj cj)) 23:=Rw.set hrow hs1 rfl;refine Dx [] 14 (og f30 3 14) (.pointer (some ⟨g,0+(n-1-i)*1,none⟩)) (λv hv _=>Fy (kd:= .i64) (i:=(n:Int)-1-(i:Int)) 28 _ _ g 0 (n-1-i) n c 1 23 rfl (by kernel_rfl) (by kernel_rfl) (by omega) (by omega) underlying28 (by kernel_rfl)) trivial<|Dz [15] ?_;refine Ya 15 (og f30 3 15) g (0+(n-1-i)*1) (.slice ai ni ci) (λ_=>D8 23 _ _ g (0+(n-1-i)*1) _ 23 _ hrow1 rfl (by kernel_rfl) (by kernel_rfl) (by simp;omega) rfl rfl (by kernel_rfl)) (λ_ _=>trivial) ?_ yn;intro w2 hs2;have hrow2:Rw g w2 ((cur.setIfInBounds (0+i*1) (.slice aj nj cj)).setIfInBounds (0+(n-1-i)*1) (.slice ai ni ci)) 23:=Rw.set hrow1 hs2 rfl;have hI2:RvI w g n cap us (i+1) w2:=Sw hI hij hrow hcs hcu hui huj hnc hrow2 hs1 hs2;refine Do<|Hi 4 ((i:Int)+1) ((i+1:Nat):Int)<|Hw 1 (.int .i64 (IntKind.i64.wrap ((n:Int)-1-(i:Int)-1))) (.int .i64 ((n:Int)-1-((i+1:Nat):Int))) (Au (Value.int .i64) (by rw[Ec (by omega) (by omega)];omega)) ?_;exact hN1 3 (i+1) ⟨hI2,by omega⟩ (by show n-(i+1)<n-i;omega) (λ_=>by kernel_rfl)
  refine Yx 11 (og f30 3 11) (.slice ai ni ci) (λ_=>AA 23 _ ⟨g,0+i*1,none⟩ _ _ rfl (by kernel_rfl) (by rw[Ad _ _ _ _ _ _ hrow,AM,BS];exact hci) underlying23 rfl) trivial ?_ yn;refine Dz [7] ?_;refine Yx 7 (og f30 3 7) (.slice aj nj cj) (λ_=>AA 23 _ ⟨g,0+(n-1-i)*1,none⟩ _ _ rfl (by kernel_rfl) (by rw[Ad _ _ _ _ _ _ hrow,AM,BS];exact hcj) underlying23 rfl) trivial ?_ yn;refine Dx [] 12 (og f30 3 12) (.pointer (some ⟨g,0+i*1,none⟩)) (λv hv _=>Bh 28 _ _ g 0 i n c 1 23 rfl (by kernel_rfl) (by kernel_rfl) (by omega) underlying28 (by kernel_rfl)) trivial<|Dz [13] ?_;refine Ya 13 (og f30 3 13) g (0+i*1) (.slice aj nj cj) (λ_=>D8 23 _ _ g (0+i*1) _ 23 _ hrow rfl (by kernel_rfl) (by kernel_rfl) (by simp;omega) rfl rfl (by kernel_rfl)) (λ_ _=>trivial) ?_ yn;intro w1 hs1;have hrow1:Rw g w1 (cur.setIfInBounds (0+i*1) (.slice aj nj cj)) 23:=Rw.set hrow hs1 rfl;refine Dx [] 14 (og f30 3 14) (.pointer (some ⟨g,0+(n-1-i)*1,none⟩)) (λv hv _=>Fy (kd:= .i64) (i:=(n:Int)-1-(i:Int)) 28 _ _ g 0 (n-1-i) n c 1 23 rfl (by kernel_rfl) (by kernel_rfl) (by omega) (by omega) underlying28 (by kernel_rfl)) trivial<|Dz [15] ?_;refine Ya 15 (og f30 3 15) g (0+(n-1-i)*1) (.slice ai ni ci) (λ_=>D8 23 _ _ g (0+(n-1-i)*1) _ 23 _ hrow1 rfl (by kernel_rfl) (by kernel_rfl) (by simp;omega) rfl rfl (by kernel_rfl)) (λ_ _=>trivial) ?_ yn;intro w2 hs2;have hrow2:Rw g w2 ((cur.setIfInBounds (0+i*1) (.slice aj nj cj)).setIfInBounds (0+(n-1-i)*1) (.slice ai ni ci)) 23:=Rw.set hrow1 hs2 rfl;have hI2:RvI w g n cap us (i+1) w2:=Sw hI hij hrow hcs hcu hui huj hnc hrow2 hs1 hs2;refine Do<|Hi 4 ((i:Int)+1) ((i+1:Nat):Int)<|Hw 1 (.int .i64 (IntKind.i64.wrap ((n:Int)-1-(i:Int)-1))) (.int .i64 ((n:Int)-1-((i+1:Nat):Int))) (Au (Value.int .i64) (by rw[Ec (by omega) (by omega)];omega)) ?_;exact hN1 3 (i+1) ⟨hI2,by omega⟩ (by show n-(i+1)<n-i;omega) (λ_=>by kernel_rfl)
 refine Hf 5 ((i:Int)<((n:Int)-1-(i:Int):Int)) ?_;exact Hr 7 (.tuple #[]) ⟨_,rfl,i,hI,by omega⟩
theorem Zb{p:Nat}(h:n<=2*i+1)(hp:p<n):rvn n i p=n-1-p:=by
 unfold rvn;split
 ·rfl
 ·omega
theorem XK{q:Bool}{v:Value}{M:List (List Int)}(h:OwnS q w base v M)(hne:M≠[])(hnb:M.length<=8800000000000):
 Calls prog 30 #[v] w λe w'=>∃u,e= .returned u/\OwnS q w' base v M.reverse/\Below base w w':=by
 obtain⟨us,h1,⟨h2,h3⟩,h4⟩:=h;have hn0:=Bx.2 hne;rcases h3 with⟨_,h5⟩|⟨g,cap,cur,rfl,hbg,hg,hc1,hc2,hc3,hc4⟩
 ·omega
 ·rw[BS]at hc3 hc4;have hsl:∀u∈us,∃a m d,u= .slice a m d:=λu hu=>by
   obtain⟨j,hj,rfl⟩:=List.getElem_of_mem hu;obtain⟨a,n,c,e,_,_⟩:=h4 j us[j] (M[j]'(by omega)) (Ac hj) (Ac (by omega));exact⟨a,n,c,e⟩
  have hI:RvI w g M.length cap us 0 w:=⟨⟨cur,hg,hc3,λp hp=>by
   rw[show rvn M.length 0 p=p from by unfold rvn;rw[Ae (by omega)],<-hc4,AO hp,Co]⟩,λ_ _=>rfl,rfl,rfl,rfl,rfl⟩
  refine(XJ (c:=cap) h1 hsl hnb hc1 hI).mono λe w'⟨u,e1,i,hR,hi⟩=>⟨u,e1,?_,?_⟩
  ·obtain⟨cur',r1,r2,r3⟩:=hR.row;have ht:cur'.toList.take M.length=us.reverse:=by
    refine List.ext_getElem? λp=>?_;by_cases hp:p<M.length
    ·rw[AO hp,Co,r3 p hp,Zb hi hp,List.getElem?_reverse (by omega),h1]
    ·rw[List.getElem?_eq_none (by rw[Am];omega),List.getElem?_eq_none (by rw[CZ];omega)]
   refine⟨us.reverse,by simp[h1],⟨by rw[CZ,CZ];exact h2, .inr ⟨g,cap,cur',by rw[CZ],hbg,r1,by rw[CZ];exact hc1,hc2,by rw[BS];exact r2,by rw[CZ,BS];exact ht⟩⟩,λj u b q1 q2=>?_⟩;have hj:j<M.length:=(by have:=(Aw.1 q2).1;rw[CZ]at this;exact this);rw[List.getElem?_reverse (by omega)]at q1 q2;rw[h1]at q1;obtain⟨a,n,c,e3,e4,e5⟩:=h4 _ u b q1 q2;exact⟨a,n,c,e3,e4.keep (λk hk hl=>⟨hR.ot k (λe=>hk.1 (by rw[e];rfl)),by simpa using hk.1,hk.2⟩),e5.at e4 (λk hk hl=>hR.ot k (λe=>hk.1 (by rw[e];rfl)))⟩
  ·exact⟨hR.os,hR.tape,hR.output,by rw[hR.size];exact Aa _,λk hk=>hR.ot k (by omega)⟩
theorem Wp.own{ns:List (List Int)}(h:Wp w gW PV base vN (λb=>base<=b) ns):OwnS true w base vN ns:=by
 obtain⟨vals,h1,h2,h3⟩:=h.o;refine⟨vals,h2,h1,λj u b q1 q2=>?_⟩;obtain⟨a,n,c,e1,e2,e3⟩:=h3 j u q1;rw[show ns.getD j []=b from by simp[List.getD,q2]]at e2;exact⟨a,n,c,e1,e2.mono (λb hb=>hb.2),λ_=>e3⟩
theorem Wp.start{X:Nat->Prop}(h:Rw gW w #[PV, .slice none 0 0] 59):Wp w gW PV gW (.slice none 0 0) X []:=⟨h,⟨[],CH w gW _ 1,rfl,λj v hj=>by simp at hj⟩,Aa _⟩
theorem Wc(t:Tr):entN [] t=entsR t:=by simp[entN]
def prvP(t:Tr)(k:List Int):List (List Int):=if t.isNo then[]else(wyN (Ni.nib k) t []++[encT t]).reverse
theorem Wg.bl{u v:World}{vN':Value}(h:Wg u v gW vN vN')(hb:Bl w u)(hg:w.heap.size<=gW)(ho:∀k,vN.ownBlock=some k->w.heap.size<=k):Bl w v:=⟨h.os.trans (Below.os hb),h.tape.trans (EX hb),h.output.trans (Ek hb),Ar (EA hb) h.size,λk hk=>(h.block k (B7 hk (EA hb)) (by omega) (λe=>by have:=ho k e;omega)).trans (C8 hb k hk)⟩
theorem Rel.entN{t:Tr}{l:PList}(h:Rel t l):(entsF [] t).map nbE=entN [] t:=by rw[Wc,<-h.ones,h.ents];rfl
theorem Rel.paths{t:Tr}{l:PList}(h:Rel t l):∀e∈Go.Proofs.YtefhepcplempkaaGreat.entN [] t,e.1.length<=64:=λe he=>by
 rw[<-h.entN,h.ents]at he;obtain⟨f,hf,rfl⟩:=BD.1 he;have:=((h.m f.1 f.2).1 hf).2.1;show(Ni.nib f.1).length<=64;rw[Ni.nib_len];omega
theorem QN{t:Tr}(hT:Tri K w g t)(hRel:Rel t L)(hLn:L.length<=2932031007390)(hk:Sk K1 w a n c k)(hn:32<n):
 Calls prog 11 #[.pointer (some ⟨g,0,none⟩), .slice a n c] w λe w'=>∃u,e= .returned u/\(λu w'=>u= .tuple #[.slice none 0 0, .int .i64 70]/\Bl w w') u w':=by
 have hB:=Bl.refl w;have lk:=hk.len;refine CV func11 rfl 31 rfl ?_;show CW _ _ _ _ _ _ _ [(0, .pointer (some ⟨g,0,none⟩)),(1, .slice a n c)] _;refine A5<|Ao<|rp 4 (.slice none 0 0)<|rp 5 (.int .i64 0)<|AK<|Av<|A5<|A5<|Ao<|rp 10 (.slice a n c)<|BH 11 26 #[.slice a n c] (λ_=>by kernel_rfl) (λ_=>by kernel_rfl) (R:=λu w'=>u= .bool false/\Bl (w) w') ((isKey_any.mono (λe w'⟨u,e1,e2,e3⟩=>⟨u,e1,by rw[e2,Bb (by omega)],e3⟩))) ?_;rintro _ u1⟨rfl,hb1⟩;replace hB:=hB.go hb1;replace hk:=hk.go hb1;have hTu:=hT.go hb1;refine rp 12 (.bool true)<|AK<|Av<|CY (λ_=>by kernel_rfl)<|A5<|Ao<|rp 4 (.slice none 0 0)<|rp 5 (.int .i64 70)<|AK<|Av<|D7<|CT ?_;exact BU (.tuple #[.slice none 0 0, .int .i64 70]) (λ_=>by kernel_rfl) ⟨_,rfl,rfl,hB⟩
theorem Wd{t:Tr}(hT:Tri K w g t)(hRel:Rel t L)(hLn:L.length<=2932031007390)(hk:Sk K1 w a n c k)(hn:n<=32)(hno:t=no):
 Calls prog 11 #[.pointer (some ⟨g,0,none⟩), .slice a n c] w λe w'=>∃u,e= .returned u/\(λu w'=>(∃v base,u= .tuple #[v, .int .i64 0]/\w.heap.size<=base/\OwnS true w' base v (prvP t k))/\Bl w w') u w':=by
 have hB:=Bl.refl w;have lk:=hk.len;refine CV func11 rfl 31 rfl ?_;show CW _ _ _ _ _ _ _ [(0, .pointer (some ⟨g,0,none⟩)),(1, .slice a n c)] _;refine A5<|Ao<|rp 4 (.slice none 0 0)<|rp 5 (.int .i64 0)<|AK<|Av<|A5<|A5<|Ao<|rp 10 (.slice a n c)<|BH 11 26 #[.slice a n c] (λ_=>by kernel_rfl) (λ_=>by kernel_rfl) (R:=λu w'=>u= .bool true/\Bl (w) w') ((isKey_any.mono (λe w'⟨u,e1,e2,e3⟩=>⟨u,e1,by rw[e2,AT (by omega)],e3⟩))) ?_;rintro _ u1⟨rfl,hb1⟩;replace hB:=hB.go hb1;replace hk:=hk.go hb1;have hTu:=hT.go hb1;refine rp 12 (.bool false)<|AK<|Av<|Cb (λ_=>by kernel_rfl)<|CN<|Av<|A5<|Ao<|rp 13 (.pointer (some ⟨g,0,none⟩))<|BH 14 27 #[.pointer (some ⟨g,0,none⟩)] (λ_=>by kernel_rfl) (λ_=>by kernel_rfl) (R:=EnR u1 (entsF [] t)) ((KF hTu (λe he=>by rw[hRel.ents]at he;exact((hRel.m e.1 e.2).1 he).2.1) (by rw[hRel.ents];omega))) ?_;rintro _ u2⟨⟨aV,cV,vsV,rfl,hPt⟩,hb2⟩;replace hB:=hB.go hb2;replace hk:=hk.go hb2;rw[hRel.entN]at hPt;obtain⟨nE,hnE⟩:∃m,(entsF [] t).length=m:=⟨_,rfl⟩;have hnL:nE<=2932031007390:=by rw[<-hnE,hRel.ents];exact hLn
 rw[hnE]at hPt⊢;have hlE:nE=(entsR t).length:=by rw[<-hPt.ll,Gl]
 obtain rfl:nE=0:=by rw[hlE,hno];rfl
 refine rp 6 (.slice aV 0 cV)<|AK<|Av<|A5<|A5<|Ao<|rp 15 (.slice aV 0 cV)<|rp 16 (.int .i64 0)<|rp 17 (.bool true)<|AK<|Av<|CY (λ_=>by kernel_rfl) ?_;refine A5<|Ao<|rp 4 (.slice none 0 0)<|rp 5 (.int .i64 0)<|AK<|Av<|D7<|CT ?_;exact BU (.tuple #[.slice none 0 0, .int .i64 0]) (λ_=>by kernel_rfl) ⟨_,rfl,⟨_,w.heap.size,rfl,Aa _,by rw[hno];exact OwnS.none _ _ _⟩,hB⟩
theorem Nj{t:Tr}(hT:Tri K w g t)(hRel:Rel t L)(hLn:L.length<=2932031007390)(hk:Sk K1 w a n c k)(hn:n<=32)(hOk:Tr.Ok 64 t)(hVb:Vb t)(hwy:(wyN (Ni.nib k) t []).length<=4000000000000):
 Calls prog 11 #[.pointer (some ⟨g,0,none⟩), .slice a n c] w λe w'=>∃u,e= .returned u/\(λu w'=>(∃v base,u= .tuple #[v, .int .i64 0]/\w.heap.size<=base/\OwnS true w' base v (prvP t k))/\Bl w w') u w':=by
 have hB:=Bl.refl w;have lk:=hk.len;refine CV func11 rfl 31 rfl ?_;show CW _ _ _ _ _ _ _ [(0, .pointer (some ⟨g,0,none⟩)),(1, .slice a n c)] _;refine A5<|Ao<|rp 4 (.slice none 0 0)<|rp 5 (.int .i64 0)<|AK<|Av<|A5<|A5<|Ao<|rp 10 (.slice a n c)<|BH 11 26 #[.slice a n c] (λ_=>by kernel_rfl) (λ_=>by kernel_rfl) (R:=λu w'=>u= .bool true/\Bl (w) w') ((isKey_any.mono (λe w'⟨u,e1,e2,e3⟩=>⟨u,e1,by rw[e2,AT (by omega)],e3⟩))) ?_;rintro _ u1⟨rfl,hb1⟩;replace hB:=hB.go hb1;replace hk:=hk.go hb1;have hTu:=hT.go hb1;refine rp 12 (.bool false)<|AK<|Av<|Cb (λ_=>by kernel_rfl)<|CN<|Av<|A5<|Ao<|rp 13 (.pointer (some ⟨g,0,none⟩))<|BH 14 27 #[.pointer (some ⟨g,0,none⟩)] (λ_=>by kernel_rfl) (λ_=>by kernel_rfl) (R:=EnR u1 (entsF [] t)) ((KF hTu (λe he=>by rw[hRel.ents]at he;exact((hRel.m e.1 e.2).1 he).2.1) (by rw[hRel.ents];omega))) ?_;rintro _ u2⟨⟨aV,cV,vsV,rfl,hPt⟩,hb2⟩;replace hB:=hB.go hb2;replace hk:=hk.go hb2;rw[hRel.entN]at hPt;obtain⟨nE,hnE⟩:∃m,(entsF [] t).length=m:=⟨_,rfl⟩;have hnL:nE<=2932031007390:=by rw[<-hnE,hRel.ents];exact hLn
 rw[hnE]at hPt⊢;have hlE:nE=(entsR t).length:=by rw[<-hPt.ll,Gl]
 have hn0:0<nE:=by rw[hlE];exact Bx.2 (FQ _ hOk)
 refine rp 6 (.slice aV nE cV)<|AK<|Av<|A5<|A5<|Ao<|rp 15 (.slice aV nE cV)<|rp 16 (.int .i64 nE)<|rv 17 (.bool false) (λ_=>Bu (v:= .bool ((nE:Int)==(0:Int))) (by kernel_rfl) (Au Value.bool (Bp.2 (by omega))))<|AK<|Av<|Cb (λ_=>by kernel_rfl) ?_;refine CN<|Av<|A5<|Ao<|rp 18 (.slice a n c) ?_;have hbo:=Bl.refl u2;have hz2:=hB.size;refine BH 19 28 #[.slice a n c] (λ_=>by kernel_rfl) (λ_=>by kernel_rfl) (R:=λu w'=>(∃a',u= .slice a' (2*n) (2*n)/\Ni.Cut w' (u2).heap.size a' (2*n) (Ni.nib k))/\Bl (u2) w') (((Ni.of_any a n c k (u2) hk.ag (by omega)).mono (λe w'⟨⟨a',e1,e2⟩,e3⟩=>⟨_,e1,⟨a',rfl,e2⟩,e3⟩))) ?_;rintro _ u3⟨⟨a3,rfl,hc3⟩,hb3⟩;replace hB:=hB.go hb3;replace hk:=hk.go hb3;replace hbo:=hbo.go hb3;have hp3:=Cut.skb hc3;have hz3:=hb3.size;refine rp 20 (.agg #[.slice a3 (2*n) (2*n), .slice none 0 0])<|E5 7 #[.slice none 0 0, .slice none 0 0] 59 (λ_=>by kernel_rfl) (λ_=>by kernel_rfl) ?_;intro wA gA hnA;refine Fo gA #[.slice a3 (2*n) (2*n), .slice none 0 0] (λ_=>by kernel_rfl) (λ_=>BP 59 _ _ _ _ _ _ rfl (by kernel_rfl) (by kernel_rfl) hnA.row (by kernel_rfl) rfl (by kernel_rfl)) ?_;intro wC hpC;have hnC:=hnA.put hpC;have hgA:=hnC.hg;have hszC:=hnC.size;replace hB:=hB.go hnC.below;replace hk:=hk.go hnC.below;replace hbo:=hbo.go hnC.below;replace hp3:=hp3.go hnC.below;have hrA:Rw gA wC #[.slice a3 (2*n) (2*n), .slice none 0 0] 59:=hnC.row;refine AK<|Av<|A5<|Ao<|rp 21 (.slice aV nE cV) ?_;have hPC:PAt (KW gA (.slice none 0 0) (λ_=>True)) wC aV nE cV vsV (entN [] t):=(hPt.old.mono (λb hb=>⟨by have:=hb.2;omega,by simp[Value.ownBlock],trivial⟩)).go hbo;have hpC2:Sk (KW gA (.slice none 0 0) (λ_=>True)) wC a3 (2*n) (2*n) (Ni.nib k):=hp3.mono (λb hb=>⟨by have:=hb.2;omega,by simp[Value.ownBlock],trivial⟩);have hE:=XI (kp:=Ni.nib k) hOk hVb [] (Wp.start (X:=λb=>gA<=b) hrA) hPC hpC2 (λb hb=>by show gA<=b;omega) (by rw[AL];omega) (by omega) (by omega) (dp:=0) rfl (λe he=>by have:=hRel.paths e he;omega);refine BH 22 29 #[.pointer (some ⟨gA,0,none⟩), .slice aV nE cV, .int .i64 0] (λ_=>by kernel_rfl) (λ_=>by kernel_rfl) (R:=REp wC gA (.slice a3 (2*n) (2*n)) gA (.slice none 0 0) (λb=>gA<=b) [] (Ni.nib k) [] t) (hE) ?_;rintro _ u4⟨a4,n4,c4,vM,rfl,hs4,hW4,hG4,hl4,hq4⟩;have hB4:=hG4.bl hB (by omega) (λq hq=>by simp[Value.ownBlock]at hq);rw[AL]at hW4;have hrM:=hW4.r;have hO4:=hW4.own;have hz4:=hG4.size;clear hB;refine rp 8 (.slice a4 n4 c4)<|AK<|Av<|A5<|Ao<|rp 23 (.pointer (some ⟨gA,1,none⟩))<|rv 24 (vM) (λ_=>AA 28 _ ⟨gA,1,none⟩ _ _ rfl (by kernel_rfl) (by rw[Ad _ _ _ _ _ _ hrM];rfl) underlying28 rfl)<|rp 25 (.slice a4 n4 c4)<|Fz 26 #[.slice a4 n4 c4] 23 1 (λ_=>by kernel_rfl) (λ_=>by kernel_rfl) ?_;intro w5 gN hnN;have hLN:Rw gN w5 #[.slice a4 n4 c4] 23:=hnN.row;have hs5:=hs4.go hnN.below;have hq5:=hq4.go hs4 hnN.below;have hO5:=hO4.far hnN.below;have hB5:=hB4.go hnN.below;have hz5:=hnN.below.size;obtain⟨vP,w6,hr6,hO6,hb6,_,_⟩:=Z4 (c:=1) hO5 hLN (hs5.mono (K':=λb=>vM.ownBlock≠some b/\gA<=b) (λb hb=>⟨hb.2.1,by have:=hb.2.2;omega⟩)) (λ_=>hq5) (λb hb=>hb) (by omega) (by omega);refine Ln 27 vP (λ_=>by kernel_rfl) (λ_=>Gr hr6 _ _ rfl (by kernel_rfl) (by kernel_rfl)) ?_;have hB6:Bl w w6:=Ce hB5 (hb6.mono (by omega));refine rp 9 (vP)<|AK<|Av<|A5<|Ao<|rp 28 (vP)<|BH 29 30 #[vP] (λ_=>by kernel_rfl) (λ_=>by kernel_rfl) (R:=λu w'=>OwnS true w' gA vP (wyN (Ni.nib k) t []++[encT t]).reverse/\Below gA w6 w') ((XK hO6 (by simp) (by rw[Ab,Cp];omega))) ?_;rintro q7 u7⟨hO7,hb7⟩;have hB7:Bl w u7:=Ce hB6 (hb7.mono (by omega));refine AK<|Av<|A5<|Ao<|rp 30 (vP)<|rp 4 (vP)<|rp 5 (.int .i64 0)<|AK<|Av<|D7 ?_;exact BU (.tuple #[vP, .int .i64 0]) (λ_=>by kernel_rfl) ⟨_,rfl,⟨vP,gA,rfl,by omega,by unfold prvP;rw[Ae (λh=>hOk.ne (isNo_iff.1 h))];exact hO7⟩,hB7⟩
def drP(A:List (List Int))(t:Tr)(pre p:List Int):List (List Int):=A++((if A.length=0∨32<=(encT t).length then[encT t]else[])++(wyN (pre++p) t pre).reverse)
def drA(A:List (List Int))(t:Tr):List (List Int):=if A.length=0∨32<=(encT t).length then A++[encT t]else A
theorem Sy(A:List (List Int))(t:Tr):0<(drA A t).length:=by
 unfold drA;split
 ·simp
 ·rename_i h;omega
theorem Zc(A:List (List Int))(t:Tr):(drA A t).length<=A.length+1:=by
 unfold drA;split
 ·simp
 ·omega
theorem Py(A:List (List Int))(t:Tr)(pre p:List Int):drP A t pre p=drA A t++(wyN (pre++p) t pre).reverse:=by
 unfold drP drA;split
 ·rw[A9]
 ·simp
theorem XL(A:List (List Int))(q x pre p:List Int):drP A (leaf q x) pre p=drA A (leaf q x):=by rw[Py,wyN];simp
theorem We{A:List (List Int)}(hA:0<A.length){kp pre:List Int}(c:Tr)(hon:kp.take pre.length=pre):A++(wy1 kp pre c).reverse=A++(if A.length=0∨32<=(encT c).length then[encT c]else[]):=by
 unfold wy1;by_cases h:32<=(encT c).length
 ·rw[Ai ⟨h,hon⟩,Ai (.inr h)];rfl
 ·rw[Ae (λe=>h e.1),Ae (by omega)];rfl
theorem Zd(A:List (List Int))(q pre p:List Int)(c:Tr)(h:¬p.take q.length=q):drP A (ext q c) pre p=drA A (ext q c):=by
 have hoff:¬(pre++p).take (pre++q).length=pre++q:=λe=>h ((Me pre p q).1 e);rw[Py,wyN,Md _ hoff,Lk hoff];simp
theorem Ze(A:List (List Int))(q pre p:List Int)(c:Tr)(h:p.take q.length=q):drP A (ext q c) pre p=drP (drA A (ext q c)) c (pre++q) (p.drop q.length):=by
 have hon:(pre++p).take (pre++q).length=pre++q:=(Me pre p q).2 h;have e:pre++q++p.drop q.length=pre++p:=by
  rw[A9];congr 1
  conv=>rhs;rw[<-Be q.length p,h]
 rw[Py A,wyN,List.reverse_append,<-A9,We (Sy A _) c hon,drP,e,A9]
theorem Zf(A:List (List Int))(pre:List Int)(k:Nat->Tr)(x:List Int):drP A (br k x) pre []=drA A (br k x):=by
 rw[Py,A4,VV];simp
theorem Z5(A:List (List Int))(pre p:List Int)(k:Nat->Tr)(x:List Int)(hi:i<16):drP A (br k x) pre ((i:Int)::p)=if(k i).isNo then drA A (br k x)else drP (drA A (br k x)) (k i) (pre++[(i:Int)]) p:=by
 rw[Py,Yq pre p k x hi];by_cases hn:(k i).isNo=true
 ·rw[Ai hn,Ai hn];simp
 ·rw[Ae hn,Ae hn];have hon:(pre++(i:Int)::p).take (pre++[(i:Int)]).length=pre++[(i:Int)]:=by
   rw[Me];rfl
  rw[List.reverse_append,<-A9,We (Sy A _) (k i) hon,drP,A9,A9,List.singleton_append]
theorem Zg(t:Tr)(k:List Int)(h:t.isNo=false):prvP t k=drP [] t [] (Ni.nib k):=by
 unfold prvP drP;rw[h];simp
end Go.Proofs.YtefhepcplempkaaGreat
namespace Go.Proofs.YtefhepcplempkaaGreat.Ni
theorem TR(b:List Int)(j:Nat)(hj:j<b.length):nib (b.take (j+1))=(nib (b.take j)++[b.getD j 0/16])++[b.getD j 0%16]:=by
 rw[O6 hj,A9];rfl
theorem rof_any(a:Option Addr)(n c:Nat)(b:List Int)(w:World)(h:Ag w a n c b)(hn:2*n<=140737488355328):
 Calls prog 32 #[.slice a n c] w λe w'=>(∃a' c',e= .returned (.slice a' (2*n) c')/\2*n<=c'/\c'<=maxLen/\Ag w' a' (2*n) c' (nib b)/\(0<2*n->∀g off,a'=some ⟨g,off,none⟩->w.heap.size<=g))/\Below w.heap.size w w':=by
 have HL:=ZQ h.l;have HC:=ZQ (λh0=>ag_head h h0);have HB:=ZQ h.b;clear h;go_enter func32,ntmps32;go_wp2_with fail
 go_loopw [3,4] (λv i w'=>∃j:Nat,j<=n/\i= .int .i64 j/\OwnB w' w.heap.size v (nib (b.take j))/\Below w.heap.size w w') (λ_ i _=>n-(intOf i).toNat)
 case atStart=>exact⟨0,by omega,rfl,ownB_nil _ _,Ak _ _⟩
 case round=>
  obtain⟨j,hj,rfl,hown,hb⟩:=hrel;have HO:=ZQ hown;have HBW:=ZQ hb;clear hown hb;by_cases hlt:j<n
  ·obtain⟨g,off,rfl,hnc,hcm,hcs⟩:=HC.out (by omega);unfold maxLen at hcm;have hcell0:=hcs j hlt;have hcell:=(HBW.out.cell (p:=⟨g,off+j,none⟩) (Af hcell0)).trans hcell0;have hjb:j<b.length:=(by have:=HL.out;omega);have hx:=HB.out _ (getD_mem hjb);have HN:=ZQ (TR b j hjb);have HNL:Hid ((nib (b.take j)).length=2*j):=ZQ (by rw[nib_len,Am];omega);generalize b.getD j 0=x at hcell hcell0 hx HN;obtain⟨hx0,hx1⟩:=hx;have hji:(j:Int)<n:=(by omega);have HO2:Hid (∀o:Obj,OwnB (wr.alloc o) w.heap.size u3 (nib (b.take j))):=ZQ λo=>OwnB.alloc HO.out o;have HSZ:=ZQ HBW.out.size;have HC0:=ZQ hcell0;clear HO hcs hjb hcell0
   go_wp2_with (first
    |(at_builtin;refine DL rfl (.tmp 11) (.tmp 17) rfl w.heap.size _ (nib (b.take j)) rfl (HO2.out _) (some ⟨wr.heap.size,0,none⟩) 1 1 [x/16] rfl (in0_one wr _) (λh=>by cases h) rfl (by rw[HNL.out];omega) (by have:=HSZ.out;simp;omega) ?_;intro v1 w1 o1 hb1;have HO1:=ZQ o1;have HB1:=ZQ ((HBW.out.alloc HSZ.out _).trans hb1);clear o1 hb1;have hcell1:=(HB1.out.cell (p:=⟨g,off+j,none⟩) (Af HC0.out)).trans HC0.out)
    |(at_builtin;refine DL rfl (.tmp 19) (.tmp 25) rfl w.heap.size _ (nib (b.take j)++[x/16]) rfl (OwnB.alloc HO1.out _) (some ⟨w1.heap.size,0,none⟩) 1 1 [x%16] rfl (in0_one w1 _) (λh=>by cases h) rfl (by rw[Ab,HNL.out];simp;omega) (by have:=HB1.out.size;simp;omega) ?_;intro v2 w2 o2 hb2;rw[<-HN.out]at o2;have HO3:=ZQ o2;have HB2:=ZQ ((HB1.out.alloc HB1.out.size _).trans hb2);clear o2 hb2))
   exact⟨⟨j+1,by omega,by simp,HO3.out,HB2.out⟩,by simp[intOf];omega⟩
  ·have hji:¬(j:Int)<n:=(by omega);have hbt:b.take j=b:=A8 (by have:=HL.out;omega);rw[hbt]at HO;obtain⟨a',c',rfl,h1,h2,h3,h4⟩:=HO.out.cutable (Ry HB.out);have hln:(nib b).length=2*n:=(by rw[nib_len,HL.out]);rw[hln]at h1 h3 h4⊢;have H4:=ZQ (show 0<2*n->∀g off,a'=some ⟨g,off,none⟩->w.heap.size<=g from λh0 g off e=>by obtain⟨g',off',cur,e',hg,_⟩:=h4 h0;rw[e]at e';cases e';exact hg);have H1:=ZQ h1;have H2:=ZQ h2;have H3:=ZQ h3;clear hbt h1 h2 h3 h4 hln;go_wp2_with fail;go_ret;exact⟨⟨a',c',rfl,H1.out,H2.out,H3.out,by first|exact H4.out|(intro h0;exact H4.out (by omega))⟩,HBW.out⟩
end Go.Proofs.YtefhepcplempkaaGreat.Ni
namespace Go.Proofs.YtefhepcplempkaaGreat
open Tr
variable {X K : Nat → Prop} {w w' : World} {base c n : Nat} {a : Option Addr} {k : List Int}
def OwnN(X:Nat->Prop)(w:World)(base:Nat)(v:Value)(l:PList):Prop:=(∀b,base<=b->X b)/\∃vs:List (Value×Value),vs.length=l.length/\w.ownsRow base 103 2 v l.length (flatP vs)/\∀(j:Nat)(p:Value×Value)(e:List Int×List Int),vs[j]?=some p->l[j]?=some e->Gp2 (λb=>v.ownBlock≠some b/\X b) w p e
theorem OwnN.pat{v:Value}{l:PList}(h:OwnN X w base v l):∃a c vs,v= .slice a l.length c/\PAt X w a l.length c vs l:=by
 obtain⟨hX,vs,h1,⟨h2,h3⟩,h4⟩:=h;rcases h3 with⟨rfl,h5⟩|⟨g,cap,cur,rfl,hbg,hg,hc1,hc2,hc3,hc4⟩
 ·refine⟨none,0,vs,by rw[h5],h1,rfl,by omega,λ_=>⟨h5,rfl⟩,λj u hj=>?_,λj p e q1 q2=>(h4 j p e q1 q2).mono (λ_ h=>h.2),λx hx=>by cases hx⟩;have:vs=[]:=A3 (by omega);subst this;simp[flatP]at hj
 ·refine⟨some ⟨g,0,none⟩,cap,vs,rfl,h1,rfl,hc1,(λe=>by cases e),λj u hj=>⟨g,0,rfl,?_⟩,λj p e q1 q2=>(h4 j p e q1 q2).mono (λ_ h=>h.2),λx hx _=>by cases hx;exact hX _ hbg⟩;rw[Ad _ _ _ _ _ _ hg,AM];have hlt:j<(flatP vs).length:=(Aw.1 hj).1;rw[DE,h1]at hlt;rw[<-hc4,AO (by omega)]at hj;rw[<-Co];exact hj
theorem Zh:∃i,prog.info? 103=some i/\i.zero=some (.agg #[.slice none 0 0, .slice none 0 0])/\i.size=2/\i.bytes=48:=by
 have h:(prog.info? 103).map (λi=>(i.zero,i.size,i.bytes))=some (some (.agg #[.slice none 0 0, .slice none 0 0]),2,48):=by kernel_rfl
 cases hq:prog.info? 103 with
 |none=>rw[hq]at h;simp at h
 |some i=>rw[hq]at h;simp at h;exact⟨i,rfl,h.1,h.2.1,h.2.2⟩
theorem OwnN.far{v:Value}{l:PList}(h:OwnN X w base v l)(hb:Below w.heap.size w w'):OwnN X w' base v l:=by
 obtain⟨hX,vs,h1,⟨h2,h3⟩,h4⟩:=h;refine⟨hX,vs,h1,⟨h2,?_⟩,λj p e q1 q2=>(h4 j p e q1 q2).go hb⟩;rcases h3 with q|⟨g,cap,cur,e1,e2,e3,e4⟩
 ·exact .inl q
 ·exact .inr ⟨g,cap,cur,e1,e2,(hb.block g (lt_of_get e3)).trans e3,e4⟩
theorem OwnN.own{v:Value}{l:PList}(h:OwnN X w base v l):∀k,v.ownBlock=some k->base<=k/\k<w.heap.size:=by
 obtain⟨hX,vs,h1,⟨h2,h3⟩,h4⟩:=h;intro k hk;rcases h3 with⟨rfl,_⟩|⟨g,cap,cur,rfl,hbg,hg,_⟩
 ·cases hk
 ·have e:g=k:=by simpa[Value.ownBlock]using hk
  subst e;exact⟨hbg,lt_of_get hg⟩
theorem Zi{v:Value}{l:PList}(hown:OwnN X w base v l){m:Nat}{vs':List (Value×Value)}{l':PList}(h:PAt K w a m c vs' l')(hK:∀b,K b->v.ownBlock≠some b/\X b)(hlen:l.length+m<=2932031007400)(hbase:base<=w.heap.size):
 ∃v' w',(∀ty,(Builtin.append_ #[62,62] ty #[v, .slice a m c]).run prog w= .ok v' w')/\OwnN X w' base v' (l++l')/\Below base w w':=by
 obtain⟨i,hi,hz,hsz,hby⟩:=Zh;have hOw:=hown.own;obtain⟨hX,vs,h1,h2,h4⟩:=id hown;cases a with
 |none=>
  obtain⟨rfl,rfl⟩:=h.nil rfl;have hn0:l'=[]:=A3 h.ll;subst hn0;exact⟨v,w,λty=>Ez w base 62 ty 103 i 2 underlying62 hi v _ _ h2,by rw[A4];exact hown,Ak _ _⟩
 |some ad=>
  have hc:∀j u,(flatP vs')[j]?=some u->w.cell? (ad.add j)=some u:=by
   intro j u hj;obtain⟨g,off,e1,e2⟩:=h.row j u hj;cases e1;rw[BO];exact e2
  have hone:∀u∈flatP vs',u.oneCell'=true:=by
   intro u hu;obtain⟨p,hp,hup⟩:=BG.1 hu;obtain⟨j,hj,e⟩:=ED.1 hp;have hjl:j<l'.length:=(by rw[h.ll,<-h.vl];exact hj);obtain⟨a1,n1,c1,a2,n2,c2,q1,q2,_,_⟩:=h.gd j p l'[j] (by rw[Ac hj,e]) (Ac hjl);simp at hup;rcases hup with q|q
   ·rw[q,q1];rfl
   ·rw[q,q2];rfl
  obtain⟨v',w',r1,r2,r3,_,r5⟩:=run_append_own_at w base 62 0 103 i _ 2 48 underlying62 hi hz hsz hby rfl (by decide) v l.length (flatP vs) h2 ad m c (flatP vs') (by rw[DE,h.vl]) hc hone (by unfold maxLen;omega) (by omega) hbase;have hkeep:∀{K':Nat->Prop}{p:Value×Value}{e:List Int×List Int},(∀b,K' b->v.ownBlock≠some b/\X b)->Gp2 K' w p e->Gp2 (λb=>v'.ownBlock≠some b/\X b) w' p e:=by
   intro K' p e hK' hg;obtain⟨a1,n1,c1,a2,n2,c2,q1,q2,q3,q4⟩:=hg;have hsk:∀{a:Option Addr}{n c:Nat}{bs:List Int},Sk K' w a n c bs->Sk (λb=>v'.ownBlock≠some b/\X b) w' a n c bs:=by
    intro a n c bs hs;refine⟨⟨?_,hs.ag.nil,hs.ag.l,hs.ag.b⟩,λx hx hn=>?_⟩
    ·rcases hs.ag.i with q|⟨gb,off,q1,q2,q3,q4,q5,q7⟩
     ·exact .inl q
     ·refine .inr ⟨gb,off,q1,q2,q3,q4,q5,λj hj=>?_⟩;rw[<-q7 j hj];exact Ay (r3.block gb (Af (q7 j hj)) (λe=>(hK' _ (hs.k _ q1 q3)).1 e.symm))
    ·refine⟨?_,(hK' _ (hs.k x hx hn)).2⟩;rcases r5 with q|q
     ·rw[q];exact(hK' _ (hs.k x hx hn)).1
     ·rw[q];intro e;have:=hs.old hx hn;simp at e;omega
   exact⟨a1,n1,c1,a2,n2,c2,q1,q2,hsk q3,hsk q4⟩
  refine⟨v',w',λty=>r1,⟨hX,vs++vs',by simp[h1,h.vl,h.ll],?_,?_⟩,?_⟩
  ·rw[Ab,h.ll,JY];exact r2
  ·intro j p e q1 q2;by_cases hj:j<vs.length
   ·rw[AV hj]at q1;rw[AV (by omega)]at q2;exact hkeep (λb hb=>hb) (h4 j p e q1 q2)
   ·rw[AS (by omega)]at q1;rw[AS (by omega),<-h1]at q2;exact hkeep hK (h.gd _ p e q1 q2)
  ·exact(Ak _ _).grown r3 hbase (λk hk=>(hOw k hk).1)
theorem PAt.oneN{g:Nat}{a':Option Addr}{n' c':Nat}{x:List Int}(h:New w w' g #[.slice a n c, .slice a' n' c'] 103)(h1:Sk K w a n c k)(h2:Sk K w a' n' c' x)(hKg:K g):PAt K w' (some ⟨g,0,none⟩) 1 1 [(.slice a n c, .slice a' n' c')] [(k,x)]:=by
 refine⟨rfl,rfl,Aa _,(λe=>by cases e),λj u hj=>⟨g,0,rfl,?_⟩,(λj p e q1 q2=>?_),λx hx _=>by cases hx;exact hKg⟩
 ·rw[Ad _ _ _ _ _ _ h.row,AM]
  match j,hj with
  |0,hj=>exact hj
  |1,hj=>exact hj
  |j+2,hj=>simp[flatP]at hj
 ·match j,q1,q2 with
  |0,q1,q2=>
   simp at q1 q2;subst q1 q2;exact⟨a,n,c,a',n',c',rfl,rfl,h1.go h.below,h2.go h.below⟩
  |j+1,q1,_=>simp at q1
theorem OwnN.nil(hX:∀b,w.heap.size<=b->X b):OwnN X w w.heap.size (.slice none 0 0) []:=⟨hX,[],rfl,⟨rfl, .inl ⟨rfl,rfl⟩⟩,λj p e h=>by simp at h⟩
theorem Mh{w w':World}{v u r:Value}{ρ:Operand->Value}{o:Oper}(hr:∀ty,(Builtin.append_ #[62,62] ty #[v,u]).run prog w= .ok r w')(x y:Operand)(ho:o.op= .call {callee:= .builtin .append,args:=#[x,y],argTypes:=#[62,62]})(hx:ρ x=v)(hy:ρ y=u):(execOp ρ o).run prog w= .ok (.value r) w':=by
 unfold execOp;simp only[ho,resolve,invoke,builtin,B9,BA,Ba,CU,BX,DB,hx,hy,hr]
theorem Sz(h:Sk K w a n c k)(hn:n<=1000000):
 Calls prog 32 #[.slice a n c] w λe w'=>∃u,e= .returned u/\(∃a' m' c',u= .slice a' m' c'/\Sk (λb=>w.heap.size<=b) w' a' m' c' (Ni.nib k))/\Bl w w':=
 (Ni.rof_any a n c k w h.ag (by omega)).mono (λe w'⟨⟨a',c',e1,h1,h2,h3,h4⟩,hb⟩=>⟨_,e1,⟨a',_,c',rfl,⟨h3,λx hx hn=>by
   rcases h3.i with⟨q,_⟩|⟨g,off,q,_⟩
   ·omega
   ·rw[q]at hx;cases hx;exact h4 (by omega) g off q⟩⟩,hb⟩)
end Go.Proofs.YtefhepcplempkaaGreat
