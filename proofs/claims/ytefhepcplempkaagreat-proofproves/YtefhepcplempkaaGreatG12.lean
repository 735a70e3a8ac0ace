/- A row of one's own of pairs of slices that grows: it has no cells but slices. -/
import Derived.Test.YtefhepcplempkaaGreatAK
import Derived.Test.YtefhepcplempkaaGreatG11
import Derived.Test.YtefhepcplempkaaGreatG01
import Derived.Lib.Bytealg
import Derived.Laws.Externs
import Derived.Lib.Bytes
import Derived.Test.YtefhepcplempkaaGreatG07
import Derived.Test.YtefhepcplempkaaGreatG09
set_option linter.unusedVariables false
set_option maxRecDepth 100000
set_option maxHeartbeats 8000000
open Go.Proofs.Tryz Go.RowKit
namespace Go.Proofs.YtefhepcplempkaaGreat
open Tr
variable {w w' : World} {base n m c g B : Nat} {K X : Nat → Prop} {a : Option Addr}
def isS(u:Value):Prop:=∃a n c,u= .slice a n c
def SlB(w:World)(v:Value):Prop:=∀k cur T fr,v.ownBlock=some k->w.heap[k]?=some (.cells cur T fr)->∀u∈cur.toList,isS u
theorem Oe{cs:Array Value}(h:∀u∈cs.toList,isS u):¬Pr cs:=by
 rintro⟨j,v,h1,h2⟩;rw[<-Co]at h1;obtain⟨a,n,c,rfl⟩:=h v (A6 h1);exact h2 a n c rfl
theorem V5(n:Nat):∀u∈(Builtin.zeroCells #[.slice none 0 0, .slice none 0 0] n).toList,isS u:=by
 intro u hu;unfold Builtin.zeroCells at hu;simp only[Array.toList_map,BD]at hu;obtain⟨i,_,rfl⟩:=hu;rcases(show i%2=0∨i%2=1 by omega)with e|e
 ·exact⟨none,0,0,by simp[e]⟩
 ·exact⟨none,0,0,by simp[e]⟩
theorem SlB.go{v:Value}(h:SlB w v)(hb:Below w.heap.size w w')(ho:∀k,v.ownBlock=some k->k<w.heap.size):SlB w' v:=λk cur T fr hk hh=>h k cur T fr hk (by rw[<-hb.block k (ho k hk)];exact hh)
theorem SlB.nil(w:World):SlB w (.slice none 0 0):=λk cur T fr hk=>by simp[Value.ownBlock]at hk
theorem YU{P:Program}{t ty e:TypeId}{i:TypeInfo}(ht:P.underlying t=some (.slice e))(hi:P.info? e=some i)(hz:i.zero=some (.agg #[.slice none 0 0, .slice none 0 0]))(hsize:i.size=2)(hby:i.bytes=48)
 {v:Value} {xs:List Value} (hown:w.ownsRow base e 2 v n xs) (hs:SlB w v) {a:Addr} {news:List Value} (hl:news.length=m*2) (hnews:∀j u,news[j]?=some u->w.cell? (a.add j)=some u) (hsn:∀u∈news,isS u) (hm:0<m)
 (h63:n+m<=maxLen) (hbytes:(n+m)*48<=140737488355328) {v':Value} (hr:(Builtin.append_ #[t,t] ty #[v, .slice (some a) m c]).run P w= .ok v' w'):SlB w' v':=by
 have h1:∀u∈news,u.oneCell'=true:=λu hu=>by obtain⟨_,_,_,rfl⟩:=hsn u hu;rfl
 have hsmall:n+m<=9223372036854775807:=by simp only[maxLen]at h63;omega
 have hxs:∀{g cap:Nat},v= .slice (some ⟨g,0,none⟩) n cap->∀u∈xs,isS u:=by
  intro g cap ev u hu;rcases hown.2 with⟨rfl,rfl⟩|⟨g',cap',cur,rfl,hbg,hg,hnc,hcm,hcs,htake⟩
  ·cases ev
  ·exact hs g' cur e (0,0) rfl hg u (by rw[<-htake]at hu;exact Bn hu)
 have hnew:∀{ys:List Value}{q:Nat},(∀u∈ys,isS u)->∀u∈(ys.toArray++news.toArray++Builtin.zeroCells #[.slice none 0 0, .slice none 0 0] q).toList,isS u:=by
  intro ys q hy u hu;simp only[Array.toList_append,Bc]at hu;rcases hu with(hu|hu)|hu
  ·exact hy u hu
  ·exact hsn u hu
  ·exact V5 _ u hu
 have hal:∀{cs:Array Value}{q r:Nat},(∀u∈cs.toList,isS u)->SlB (w.drew.alloc (.cells cs e)) (.slice (some ⟨w.heap.size,0,none⟩) q r):=by
  intro cs q r hcs k cur T fr hk hh;simp only[Value.ownBlock,C5]at hk;subst hk;rw[show w.heap.size=w.drew.heap.size from rfl,Aj w.drew]at hh;cases hh;exact hcs
 rcases id hown.2 with⟨rfl,rfl⟩|⟨g,cap,cur,rfl,hbg,hg,hnc,hcm,hcs,htake⟩
 ·have hq:=run_append_nil (P:=P) w t ty e i _ ht hi hz a m c news (by rw[hsize];exact hl) hnews hm (by omega) (by rw[hby];omega);rw[hq]at hr;cases hr;refine hal ?_;have:=hnew (ys:=[]) (q:=grownCap w m 0 e-m) (λu hu=>by cases hu);rw[show([]:List Value).toArray=#[]from rfl,Array.empty_append]at this;exact this
 ·by_cases hroom:n+m<=cap
  ·have hfit:n*i.size+news.length<=cur.size:=(by rw[hl,hcs,hsize,<-Nat.add_mul];exact Nat.mul_le_mul_right _ hroom);have hq:=run_append_room (P:=P) w t ty e i ht hi g n cap cur hg a m c news (by rw[hsize];exact hl) hnews h1 hroom hfit;rw[hq]at hr;cases hr;intro k cur' T fr hk hh;simp only[Value.ownBlock,C5]at hk;subst hk;rw[AE w g cur _ e _ hg]at hh;cases hh;intro u hu;have hcu:=hs g cur e (0,0) rfl hg;simp only[Bc]at hu;rcases hu with(hu|hu)|hu
   ·exact hcu u (Bn hu)
   ·exact hsn u hu
   ·exact hcu u (BF hu)
  ·have holds:∀j u,xs[j]?=some u->w.cell? ((⟨g,0,none⟩:Addr).add j)=some u:=hown.cells (g:=g) rfl;have hq:=run_append_grow (P:=P) w t ty e i _ ht hi hz ⟨g,0,none⟩ n cap xs (by rw[hsize];exact hown.1) holds a m c news (by rw[hsize];exact hl) hnews (by omega) (by omega) (by rw[hby];exact growslice_fits (by omega) hbytes);rw[hq]at hr;cases hr;exact hal (hnew (hxs rfl))
section
variable {r : Option Nat} {m : Nat} {P : Program} {ds : List Deferred} {n : Nat} {Q : Exit → Act → World → Prop} {env : Env} {w : World}
end
theorem Sk.nsl{v:Value}{bs:List Int}(h:Sk K w a n c bs)(hs:SlB w v):Sk (λb=>K b/\v.ownBlock≠some b) w a n c bs:=⟨h.ag,λx hx hn=>⟨h.k x hx hn,λe=>by
 rcases h.ag.i with⟨h1,_⟩|⟨gb,off,h1,h2,h3,h4,h5,h7⟩
 ·omega
 ·rw[h1]at hx;cases hx;obtain⟨cs,T,fr,e1,e2⟩:=IH (h7 0 (by have:=h.len;omega));refine Oe (hs gb cs T fr e e1) ⟨_,_,e2,λ_ _ _=>by simp⟩⟩⟩
def OwnE(X:Nat->Prop)(w:World)(base:Nat)(v:Value)(l:PList):Prop:=(∀b,base<=b->X b)/\∃vs:List (Value×Value),vs.length=l.length/\w.ownsRow base 95 2 v l.length (flatP vs)/\∀(j:Nat)(p:Value×Value)(e:List Int×List Int),vs[j]?=some p->l[j]?=some e->Gp2 (λb=>v.ownBlock≠some b/\X b) w p e
theorem OwnE.pat{v:Value}{l:PList}(h:OwnE X w base v l):∃a c vs,v= .slice a l.length c/\PAt X w a l.length c vs l:=by
 obtain⟨hX,vs,h1,⟨h2,h3⟩,h4⟩:=h;rcases h3 with⟨rfl,h5⟩|⟨g,cap,cur,rfl,hbg,hg,hc1,hc2,hc3,hc4⟩
 ·refine⟨none,0,vs,by rw[h5],h1,rfl,by omega,λ_=>⟨h5,rfl⟩,λj u hj=>?_,λj p e q1 q2=>(h4 j p e q1 q2).mono (λ_ h=>h.2),λx hx=>by cases hx⟩;have:vs=[]:=A3 (by omega);subst this;simp[flatP]at hj
 ·refine⟨some ⟨g,0,none⟩,cap,vs,rfl,h1,rfl,hc1,(λe=>by cases e),λj u hj=>⟨g,0,rfl,?_⟩,λj p e q1 q2=>(h4 j p e q1 q2).mono (λ_ h=>h.2),λx hx _=>by cases hx;exact hX _ hbg⟩;rw[Ad _ _ _ _ _ _ hg,AM];have hlt:j<(flatP vs).length:=(Aw.1 hj).1;rw[DE,h1]at hlt;rw[<-hc4,AO (by omega)]at hj;rw[<-Co];exact hj
theorem V6:∃i,prog.info? 95=some i/\i.zero=some (.agg #[.slice none 0 0, .slice none 0 0])/\i.size=2/\i.bytes=48:=by
 have h:(prog.info? 95).map (λi=>(i.zero,i.size,i.bytes))=some (some (.agg #[.slice none 0 0, .slice none 0 0]),2,48):=by kernel_rfl
 cases hq:prog.info? 95 with
 |none=>rw[hq]at h;simp at h
 |some i=>rw[hq]at h;simp at h;exact⟨i,rfl,h.1,h.2.1,h.2.2⟩
theorem OwnE.far{v:Value}{l:PList}(h:OwnE X w base v l)(hb:Below w.heap.size w w'):OwnE X w' base v l:=by
 obtain⟨hX,vs,h1,⟨h2,h3⟩,h4⟩:=h;refine⟨hX,vs,h1,⟨h2,?_⟩,λj p e q1 q2=>(h4 j p e q1 q2).go hb⟩;rcases h3 with q|⟨g,cap,cur,e1,e2,e3,e4⟩
 ·exact .inl q
 ·exact .inr ⟨g,cap,cur,e1,e2,(hb.block g (lt_of_get e3)).trans e3,e4⟩
theorem OwnE.own{v:Value}{l:PList}(h:OwnE X w base v l):∀k,v.ownBlock=some k->base<=k/\k<w.heap.size:=by
 obtain⟨hX,vs,h1,⟨h2,h3⟩,h4⟩:=h;intro k hk;rcases h3 with⟨rfl,_⟩|⟨g,cap,cur,rfl,hbg,hg,_⟩
 ·cases hk
 ·have e:g=k:=by simpa[Value.ownBlock]using hk
  subst e;exact⟨hbg,lt_of_get hg⟩
theorem Zy{v:Value}{l:PList}(hown:OwnE X w base v l){vs':List (Value×Value)}{l':PList}(h:PAt K w a m c vs' l')(hK:∀b,K b->v.ownBlock≠some b/\X b)(hlen:l.length+m<=2932031007400)(hbase:base<=w.heap.size):
 ∃v' w',(∀ty,(Builtin.append_ #[55,55] ty #[v, .slice a m c]).run prog w= .ok v' w')/\OwnE X w' base v' (l++l')/\Below base w w'/\(∀k,k<w.heap.size->v.ownBlock≠some k->w'.heap[k]?=w.heap[k]?)/\(v'.ownBlock=v.ownBlock∨v'.ownBlock=some w.heap.size):=by
 obtain⟨i,hi,hz,hsz,hby⟩:=V6;have hOw:=hown.own;obtain⟨hX,vs,h1,h2,h4⟩:=id hown;cases a with
 |none=>
  obtain⟨rfl,rfl⟩:=h.nil rfl;have hn0:l'=[]:=A3 h.ll;subst hn0;exact⟨v,w,λty=>Ez w base 55 ty 95 i 2 underlying55 hi v _ _ h2,by rw[A4];exact hown,Ak _ _,λ_ _ _=>rfl, .inl rfl⟩
 |some ad=>
  have hc:∀j u,(flatP vs')[j]?=some u->w.cell? (ad.add j)=some u:=by
   intro j u hj;obtain⟨g,off,e1,e2⟩:=h.row j u hj;cases e1;rw[BO];exact e2
  have hone:∀u∈flatP vs',u.oneCell'=true:=by
   intro u hu;obtain⟨p,hp,hup⟩:=BG.1 hu;obtain⟨j,hj,e⟩:=ED.1 hp;have hjl:j<l'.length:=(by rw[h.ll,<-h.vl];exact hj);obtain⟨a1,n1,c1,a2,n2,c2,q1,q2,_,_⟩:=h.gd j p l'[j] (by rw[Ac hj,e]) (Ac hjl);simp at hup;rcases hup with q|q
   ·rw[q,q1];rfl
   ·rw[q,q2];rfl
  obtain⟨v',w',r1,r2,r3,_,r5⟩:=run_append_own_at w base 55 0 95 i _ 2 48 underlying55 hi hz hsz hby rfl (by decide) v l.length (flatP vs) h2 ad m c (flatP vs') (by rw[DE,h.vl]) hc hone (by unfold maxLen;omega) (by omega) hbase;have hkeep:∀{K':Nat->Prop}{p:Value×Value}{e:List Int×List Int},(∀b,K' b->v.ownBlock≠some b/\X b)->Gp2 K' w p e->Gp2 (λb=>v'.ownBlock≠some b/\X b) w' p e:=by
   intro K' p e hK' hg;obtain⟨a1,n1,c1,a2,n2,c2,q1,q2,q3,q4⟩:=hg;have hsk:∀{a:Option Addr}{n c:Nat}{bs:List Int},Sk K' w a n c bs->Sk (λb=>v'.ownBlock≠some b/\X b) w' a n c bs:=by
    intro a n c bs hs;refine⟨⟨?_,hs.ag.nil,hs.ag.l,hs.ag.b⟩,λx hx hn=>?_⟩
    ·rcases hs.ag.i with q|⟨gb,off,q1,q2,q3,q4,q5,q7⟩
     ·exact .inl q
     ·refine .inr ⟨gb,off,q1,q2,q3,q4,q5,λj hj=>?_⟩;rw[<-q7 j hj];exact Ay (r3.block gb (Af (q7 j hj)) (λe=>(hK' _ (hs.k _ q1 q3)).1 e.symm))
    ·refine⟨?_,(hK' _ (hs.k x hx hn)).2⟩;rcases r5 with q|q
     ·rw[q];exact(hK' _ (hs.k x hx hn)).1
     ·rw[q];intro e;have:=hs.old hx hn;simp at e;omega
   exact⟨a1,n1,c1,a2,n2,c2,q1,q2,hsk q3,hsk q4⟩
  refine⟨v',w',λty=>r1,⟨hX,vs++vs',by simp[h1,h.vl,h.ll],?_,?_⟩,?_,λk hk hn=>r3.block k hk (λe=>hn e.symm),r5⟩
  ·rw[Ab,h.ll,JY];exact r2
  ·intro j p e q1 q2;by_cases hj:j<vs.length
   ·rw[AV hj]at q1;rw[AV (by omega)]at q2;exact hkeep (λb hb=>hb) (h4 j p e q1 q2)
   ·rw[AS (by omega)]at q1;rw[AS (by omega),<-h1]at q2;exact hkeep hK (h.gd _ p e q1 q2)
  ·exact(Ak _ _).grown r3 hbase (λk hk=>(hOw k hk).1)
theorem PAt.oneE{a':Option Addr}{n' c':Nat}{k x:List Int}(h:New w w' g #[.slice a n c, .slice a' n' c'] 95)(h1:Sk K w a n c k)(h2:Sk K w a' n' c' x)(hKg:K g):PAt K w' (some ⟨g,0,none⟩) 1 1 [(.slice a n c, .slice a' n' c')] [(k,x)]:=by
 refine⟨rfl,rfl,Aa _,(λe=>by cases e),λj u hj=>⟨g,0,rfl,?_⟩,(λj p e q1 q2=>?_),λx hx _=>by cases hx;exact hKg⟩
 ·rw[Ad _ _ _ _ _ _ h.row,AM]
  match j,hj with
  |0,hj=>exact hj
  |1,hj=>exact hj
  |j+2,hj=>simp[flatP]at hj
 ·match j,q1,q2 with
  |0,q1,q2=>
   simp at q1 q2;subst q1 q2;exact⟨a,n,c,a',n',c',rfl,rfl,h1.go h.below,h2.go h.below⟩
  |j+1,q1,_=>simp at q1
theorem V7{v:Value}{l:PList}(hown:OwnE X w base v l)(hs:SlB w v){p:Value×Value}{e:List Int×List Int}(h:PAt K w (some ⟨g,0,none⟩) 1 1 [p] [e])(hK:∀b,K b->v.ownBlock≠some b/\X b)(hlen:l.length+1<=2932031007400)(hbase:base<=w.heap.size):
 ∃v' w',(∀ty,(Builtin.append_ #[55,55] ty #[v, .slice (some ⟨g,0,none⟩) 1 1]).run prog w= .ok v' w')/\OwnE X w' base v' (l++[e])/\SlB w' v'/\Below base w w'/\(∀k,k<w.heap.size->v.ownBlock≠some k->w'.heap[k]?=w.heap[k]?)/\(v'.ownBlock=v.ownBlock∨v'.ownBlock=some w.heap.size):=by
 obtain⟨v',w',h1,h2,h3,h4,h5⟩:=Zy hown h hK hlen hbase;refine⟨v',w',h1,h2,?_,h3,h4,h5⟩;obtain⟨i,hi,hz,hsz,hby⟩:=V6;obtain⟨hX,vs,q1,q2,q4⟩:=id hown;obtain⟨a1,n1,c1,a2,n2,c2,e1,e2,_,_⟩:=h.gd 0 p e rfl rfl;refine YU (ty:=0) (m:=1) (c:=1) (a:=⟨g,0,none⟩) (news:=flatP [p]) underlying55 hi hz hsz hby q2 hs (by simp[flatP]) (λj u hj=>?_) (λu hu=>?_) (by omega) (by unfold maxLen;omega) (by omega) (h1 0)
 ·obtain⟨g',off,e3,e4⟩:=h.row j u hj;cases e3;rw[BO];exact e4
 ·simp only[flatP,Cm,List.flatMap_nil,A4,AP,Cj,Et]at hu;rcases hu with rfl|rfl
  ·exact⟨a1,n1,c1,e1⟩
  ·exact⟨a2,n2,c2,e2⟩
theorem Xy{X Y:World}{row:Option Nat}(hg:X.grownBy Y row)(hrow:∀r,row=some r->B<=r/\∃o:Obj,X.heap[r]?=some o/\o.isCells=false)(k:Nat)(cs:Array Value)(T:TypeId)(fr:Nat×Nat)(hh:X.heap[k]?=some (.cells cs T fr)):Y.heap[k]?=some (.cells cs T fr):=(hg.block k (lt_of_get hh) (λe=>by
 obtain⟨_,o,ho,hc⟩:=hrow k e.symm;rw[hh]at ho;cases ho;cases hc)).trans hh
theorem OwnE.cells{v:Value}{l:PList}(h:OwnE X w base v l)(hz:w.heap.size<=w'.heap.size)(hc:∀(k:Nat)(cs:Array Value)(T:TypeId)(fr:Nat×Nat),w.heap[k]?=some (Obj.cells cs T fr)->w'.heap[k]?=some (Obj.cells cs T fr)):OwnE X w' base v l:=by
 obtain⟨hX,vs,h1,⟨h2,h3⟩,h4⟩:=h;have hk:KpU (λ_=>False) w.heap.size w w':=⟨hz,λk cs T fr _ _ _ hh=>hc k cs T fr hh⟩;refine⟨hX,vs,h1,⟨h2,?_⟩,λj p e q1 q2=>?_⟩
 ·rcases h3 with q|⟨g,cap,cur,e1,e2,e3,e4⟩
  ·exact .inl q
  ·exact .inr ⟨g,cap,cur,e1,e2,hc g _ _ _ e3,e4⟩
 ·obtain⟨a1,n1,c1,a2,n2,c2,e1,e2,e3,e4⟩:=h4 j p e q1 q2;exact⟨a1,n1,c1,a2,n2,c2,e1,e2,e3.kp hk (Aa _) (λ_ _ h=>h),e4.kp hk (Aa _) (λ_ _ h=>h)⟩
theorem OwnE.row{v:Value}{l:PList}(h:OwnE X w base v l):∀k,v.ownBlock=some k->∃cs,w.heap[k]?=some (.cells cs 95 (0,0)):=by
 obtain⟨hX,vs,h1,⟨h2,h3⟩,h4⟩:=h;intro k hk;rcases h3 with⟨rfl,_⟩|⟨g,cap,cur,rfl,hbg,hg,_⟩
 ·simp[Value.ownBlock]at hk
 ·simp only[Value.ownBlock,C5]at hk;subst hk;exact⟨cur,hg⟩
theorem SlB.cells{v:Value}{l:PList}(hs:SlB w v)(h:OwnE X w base v l)(hc:∀(k:Nat)(cs:Array Value)(T:TypeId)(fr:Nat×Nat),w.heap[k]?=some (Obj.cells cs T fr)->w'.heap[k]?=some (Obj.cells cs T fr)):SlB w' v:=λk cur T fr hk hh=>by
 obtain⟨cs,e⟩:=h.row k hk;have:=hc k _ _ _ e;rw[this]at hh;cases hh;exact hs k _ _ _ hk e
structure EnI(w V:World)(gA:Nat)(pre:PList)(W:World):Prop where
 b:Bl w W
 ex:∃v,Rw gA W #[v] 55/\OwnE (λb=>b≠gA) W V.heap.size v pre/\SlB W v
 kp:∀(k:Nat)(cs:Array Value)(T:TypeId)(fr:Nat×Nat),k≠gA->V.heap[k]?=some (Obj.cells cs T fr)->W.heap[k]?=some (Obj.cells cs T fr)
 sz:V.heap.size<=W.heap.size
theorem EnI.own{V:World}{gA:Nat}(hB:w.heap.size<=B):OwnFrom B (EnI w V gA):=λpre X Y row hs hg hrow=>by
 obtain⟨v,h1,h2,h3⟩:=hs.ex;have hc:=Xy hg hrow;exact⟨Below.grown hs.b hg hs.b.size (λk e=>Ar hB (hrow k e).1),⟨v,hc _ _ _ _ h1,h2.cells hg.size hc,h3.cells h2 hc⟩,λk cs T fr hk hh=>hc _ _ _ _ (hs.kp k cs T fr hk hh),Ar hs.sz hg.size⟩
theorem OwnE.none(hX:∀b,base<=b->X b):OwnE X w base (.slice none 0 0) []:=⟨hX,[],rfl,CH w base _ 2,λj p e q=>by simp at q⟩
theorem OwnE.one{v:Value}{l:PList}(h:OwnE X w base v l):v.oneCell'=true:=by
 obtain⟨a,c,vs,rfl,_⟩:=h.pat
 rfl
theorem OwnE.cel{v:Value}{l:PList}(h:OwnE X w base v l):v.cells=#[v]:=by
 obtain⟨a,c,vs,rfl,_⟩:=h.pat
 rfl
theorem OwnE.tou{gL:Nat}{v:Value}{l:PList}(h:OwnE (λb=>b≠gL) w base v l)(ht:Touch gL w w')(hg:gL<base):OwnE (λb=>b≠gL) w' base v l:=by
 obtain⟨hX,vs,h1,⟨h2,h3⟩,h4⟩:=h;refine⟨hX,vs,h1,⟨h2,?_⟩,λj p e q1 q2=>?_⟩
 ·rcases h3 with q|⟨g,cap,cur,e1,e2,e3,e4⟩
  ·exact .inl q
  ·exact .inr ⟨g,cap,cur,e1,e2,(ht.block g (lt_of_get e3) (by omega)).trans e3,e4⟩
 ·obtain⟨a1,n1,c1,a2,n2,c2,e1,e2,e3,e4⟩:=h4 j p e q1 q2;exact⟨a1,n1,c1,a2,n2,c2,e1,e2,e3.tou ht (λhb=>hb.2 rfl),e4.tou ht (λhb=>hb.2 rfl)⟩
end Go.Proofs.YtefhepcplempkaaGreat
namespace Go.Proofs.YtefhepcplempkaaGreat
open Ni (lessP Jg)
end Go.Proofs.YtefhepcplempkaaGreat
namespace Go.Proofs.YtefhepcplempkaaGreat
open Tr
variable {K K' : Nat → Prop} {w : World} {a a' : Option Addr} {n c n' c' : Nat} {M M' : List (List Int)}
structure Bt(K:Nat->Prop)(w:World)(a:Option Addr)(n:Nat)(M:List (List Int)):Prop where
 len:M.length=n
 row:∀j,j<n->∃g off a' n' c',a=some ⟨g,off,none⟩/\w.cell? ⟨g,off+j*1,none⟩=some (.slice a' n' c')/\Sk K w a' n' c' (M.getD j [])
theorem Bt.go{w':World}(h:Bt K w a n M)(hb:Below w.heap.size w w'):Bt K w' a n M:=⟨h.len,λj hj=>by
 obtain⟨g,off,a',n',c',h1,h2,h3⟩:=h.row j hj;exact⟨g,off,a',n',c',h1,(hb.cell (p:=⟨g,off+j*1,none⟩) (Af h2)).trans h2,h3.go hb⟩⟩
theorem Bt.drew(h:Bt K w a n M):Bt K w.drew a n M:=h.go (Ak _ _).drew
structure Two(K K':Nat->Prop)(w:World)(p p':Addr)(a a':Option Addr)(n c n' c':Nat)(x y:List Int):Prop where
 cc:w.cell? p=some (.slice a n c)
 sk:Sk K w a n c x
 cc':w.cell? p'=some (.slice a' n' c')
 sk':Sk K' w a' n' c' y
theorem Two.drew{p p':Addr}{x y:List Int}(h:Two K K' w p p' a a' n c n' c' x y):Two K K' w.drew p p' a a' n c n' c' x y:=⟨h.cc,h.sk.drew,h.cc',h.sk'.drew⟩
theorem V8{N:List (List Int)}(h1:M.length=n)(h2:N.length=n)(h:∀i,i<n->M.getD i []=N.getD i []):M=N:=by
 refine List.ext_getElem (by omega) λi hi hj=>?_;have:=h i (by omega);simpa[List.getD,hi,hj]using this
theorem Xz(hX:Bt K w a n M)(hY:Bt K' w a' n' M')(hne:n≠n'):
 Calls prog 13 #[.slice a n c, .slice a' n' c'] w λe w'=>∃u,e= .returned u/\(λu w'=>u= .bool (decide (M=M'))/\Bl w w') u w':=by
 have hB:=Bl.refl w;refine EO func13 28<|Hb 12 (!((n:Int)==(n':Int))) true (by simp;omega) ?_;exact Hr 10 (.bool false) ⟨_,rfl,by rw[Bb (λe=>hne (by rw[<-hX.len,<-hY.len,e]))],hB⟩
theorem X0(hX:Bt K w a n M)(hY:Bt K' w a' n M')(hn:n<=7600000000002):
 Calls prog 13 #[.slice a n c, .slice a' n c'] w λe w'=>∃u,e= .returned u/\(λu w'=>u= .bool (decide (M=M'))/\Bl w w') u w':=by
 have hB:=Bl.refl w;refine EO func13 28<|Hb 12 (!((n:Int)==(n:Int))) false (by simp) ?_;refine Ho (X:=Nat) 12 (λj=>[(5, .int .i64 (j:Int)),(0, .slice a n c),(1, .slice a' n c')]) (λj v=>Bl w v/\j<=n/\∀i,i<j->M.getD i []=M'.getD i []) (λj=>n-j) 0 ⟨hB,AD _,λi hi=>by omega⟩ ?_;clear hB;rintro j v⟨hB,hj,hI⟩ I1 hN1;by_cases hlt:j<n
 ·skip
  obtain⟨g1,o1,a1,n1,c1,e1,hc1,hs1⟩:=(hX.go hB).row j hlt;obtain⟨g2,o2,a2,n2,c2,e2,hc2,hs2⟩:=(hY.go hB).row j hlt;subst e1;subst e2;obtain⟨x,ex⟩:∃x,M.getD j []=x:=⟨_,rfl⟩;obtain⟨y,ey⟩:∃y,M'.getD j []=y:=⟨_,rfl⟩;rw[ex]at hs1;rw[ey]at hs2;have hS:Two K K' v ⟨g1,o1+j*1,none⟩ ⟨g2,o2+j*1,none⟩ a1 a2 n1 c1 n2 c2 x y:=⟨hc1,hs1,hc2,hs2⟩;refine Ht 6 ((j:Int)<(n:Int))<|Hj 8 (λv=>Two K K' v ⟨g1,o1+j*1,none⟩ ⟨g2,o2+j*1,none⟩ a1 a2 n1 c1 n2 c2 x y) (hS.drew) ?_;replace hS:=hS.drew;refine Dx [0,1] 2 (og f13 6 2) (.pointer (some ⟨g1,o1+j*1,none⟩)) (λv hv _=>Bh 28 _ _ g1 o1 j n c 1 23 rfl (by kernel_rfl) (by kernel_rfl) hlt underlying28 (by kernel_rfl)) hS<|Dx [] 3 (og f13 6 3) (.slice a1 n1 c1) (λv hv _=>AA 23 _ _ _ _ rfl (by kernel_rfl) hv.cc underlying23 rfl) hS<|Dx [] 4 (og f13 6 4) (.string (strOfNums x)) (λv hv _=>hv.sk.run_str _ _ _ rfl (by kernel_rfl)) hS<|Dx [5,6] 7 (og f13 6 7) (.pointer (some ⟨g2,o2+j*1,none⟩)) (λv hv _=>Bh 28 _ _ g2 o2 j n c' 1 23 rfl (by kernel_rfl) (by kernel_rfl) hlt underlying28 (by kernel_rfl)) hS<|Dx [] 8 (og f13 6 8) (.slice a2 n2 c2) (λv hv _=>AA 23 _ _ _ _ rfl (by kernel_rfl) hv.cc' underlying23 rfl) hS<|Dx [] 9 (og f13 6 9) (.string (strOfNums y)) (λv hv _=>hv.sk'.run_str _ _ _ rfl (by kernel_rfl)) hS<|Dx [] 10 (og f13 6 10) (.bool (!decide (x=y))) (λv hv _=>Yw 9 _ _ _ _ _ rfl (by kernel_rfl) (by kernel_rfl) (Au Bool.not (KU hS.sk.ag.b hS.sk'.ag.b))) hS<|Do ?_;by_cases hpq:x=y
  ·skip
   rw[show(!decide (x=y))=false from by simp[hpq]];refine Hi 7 ((j:Int)+1) ((j:Int)+1) ?_;replace hB:=hB.drew;exact hN1 2 (j+1) ⟨hB,by omega,λi hi=>(Nat.lt_succ_iff_lt_or_eq.1 hi).elim (λh=>hI i h) (λh=>by rw[h,ex,ey,hpq])⟩ (by show n-(j+1)<n-j;omega) (λ_=>by kernel_rfl)
  ·skip
   rw[show(!decide (x=y))=true from by simp[hpq]];replace hB:=hB.drew;exact Hr 13 (.bool false) ⟨_,rfl,by rw[Bb (λe=>hpq (by rw[<-ex,<-ey,e]))],hB⟩
 obtain rfl:j=n:=by omega
 refine Hf 6 ((j:Int)<(j:Int)) ?_;exact Hr 14 (.bool true) ⟨_,rfl,by rw[AT (V8 hX.len hY.len hI)],hB⟩
theorem K7(hX:Bt K w a n M)(hY:Bt K' w a' n' M')(hn:n<=7600000000002):
 Calls prog 13 #[.slice a n c, .slice a' n' c'] w λe w'=>∃u,e= .returned u/\u= .bool (decide (M=M'))/\Bl w w':=by
 by_cases h:n=n'
 ·subst h;exact X0 hX hY hn
 ·exact Xz hX hY h
end Go.Proofs.YtefhepcplempkaaGreat
namespace Go.Proofs.YtefhepcplempkaaGreat
variable {K : Nat → Prop} {w w' u : World} {ys post C : List RV} {rs : List PR} {y : RV} {gk gn : Nat}
def flatR(ys:List RV):List Value:=ys.flatMap RV.cells
theorem FU:∀{ys:List RV},(∀y∈ys,y.d.length=32)->(flatR ys).length=ys.length*34
 |[],_=>rfl
 |y::r,h=>by
  have ih:=FU λz hz=>h z (AN _ hz);unfold flatR at ih⊢;rw[Cm,Ab,ih,RV.len (h y (by simp)),AU];omega
theorem GD(a b:List RV):flatR (a++b)=flatR a++flatR b:=by unfold flatR;rw[Ca]
theorem JZ(y:RV):flatR [y]=y.cells:=by unfold flatR;rw[Cm,List.flatMap_nil,A4]
theorem Qx:∃i,prog.info? 65=some i/\i.zero=some (.agg rz.cells.toArray)/\i.size=34/\i.bytes=64:=by
 have h:(prog.info? 65).map (λi=>(i.zero,i.size,i.bytes))=some (some (.agg rz.cells.toArray),34,64):=by kernel_rfl
 cases hq:prog.info? 65 with
 |none=>rw[hq]at h;simp at h
 |some i=>rw[hq]at h;simp at h;exact⟨i,rfl,h.1,h.2.1,h.2.2⟩
theorem YV:madeCells (Value.agg rz.cells.toArray).cells ((16:Int).toNat*34)=(flatR (List.replicate 16 rz)).toArray:=by kernel_rfl
section
variable {a : Act} {w : World}
theorem MY{o:Oper}(ho:o.op= .makeSlice 66 (.const (.int .i64 16)) (.const (.int .i64 16))):(execOp a.eval o).run prog w= .ok (.value (.slice (some ⟨w.heap.size,0,none⟩) 16 16)) (w.alloc (.cells (flatR (List.replicate 16 rz)).toArray 65)):=by
 obtain⟨i,hi,hz,hsz,hby⟩:=Qx;have hr:(Instr.makeSlice 66 (.int .i64 16) (.int .i64 16)).run prog w= .ok (.slice (some ⟨w.heap.size,0,none⟩) 16 16) (w.alloc (.cells (flatR (List.replicate 16 rz)).toArray 65)):=by
  have h:=run_make (P:=prog) w 66 65 i _ underlying66 hi hz .i64 .i64 16 16 (by omega) (by omega) (by rw[hby];omega) (by omega);rw[hsz,show madeCells (Value.agg rz.cells.toArray).cells ((16:Int).toNat*34)=(flatR (List.replicate 16 rz)).toArray from YV]at h;exact h
 unfold execOp;rw[ho];simp only[Act.eval,B9,hr,Ba,BA]
theorem I7{o:Oper}(ho:o.op= .alloc 68):(execOp a.eval o).run prog w= .ok (.value (.pointer (some ⟨w.heap.size,0,none⟩))) (w.alloc (.cells nz.cells.toArray 68)):=by
 unfold execOp;rw[ho];go_simp;rfl
theorem Qy{x y:Operand}{o:Oper}(ho:o.op= .store 65 x y)(g off:Nat)(r:RV)(hl:r.d.length=32)(hx:a.eval x= .pointer (some ⟨g,off,none⟩))(hy:a.eval y= .agg r.cells.toArray)(t:TypeId)(cur:Array Value)
 (hg:w.heap[g]?=some (.cells cur t (0,0))) (hfit:off+34<=cur.size):
 (execOp a.eval o).run prog w= .ok .skip (w.setRow g (cur.toList.take off++r.cells++cur.toList.drop (off+34)).toArray):=by
 have hst:=run_storeCells_at prog g off t r.cells 0 cur w hg (by rw[RV.len hl];omega) r.one;have hi:=DF;cases hq:prog.info? 65 with
 |none=>rw[hq]at hi;simp at hi
 |some i=>
  have hs:i.size=34:=by rw[hq]at hi;simpa using hi
  have hsv:(storeVar 65 ⟨g,off,none⟩ (.agg r.cells.toArray)).run prog w= .ok () (w.setRow g (cur.toList.take off++r.cells++cur.toList.drop (off+34)).toArray):=by
   rw[RV.len hl]at hst;simp[storeVar,sizeOf,typeInfo,hq,Value.cells,hs,RV.len hl];simpa using hst
  unfold execOp;rw[ho];simp only[hx,hy,Instr.storeAt,Instr.sureAddr,B9,BA,Ba,hsv]
end
theorem MZ:∀{ts:List T}{t:T},t∈ts->refOfP t=none->kidsP ts=none
 |x::l,t,ht,h=>by
  rw[kidsP];rcases AP.1 ht with rfl|ht
  ·rw[h]
  ·rw[MZ ht h];cases refOfP x<;>rfl
theorem Na:∀{ts:List T}{rs:List PR}{t:T}{r:PR},kidsP ts=some rs->refOfP t=some r->kidsP (ts++[t])=some (rs++[r])
 |[],rs,t,r,h,hr=>by
  cases h;rw[AL,kidsP,hr,kidsP];rfl
 |x::l,rs,t,r,h,hr=>by
  rw[kidsP]at h;rw[Cq,kidsP];cases hx:refOfP x with
  |none=>rw[hx]at h;cases h
  |some a=>
   rw[hx]at h;dsimp only at h⊢;cases hk:kidsP l with
   |none=>rw[hk]at h;cases h
   |some l'=>
    rw[hk]at h;cases h;rw[Na hk hr];rfl
def RefsAt(K:Nat->Prop)(w:World)(ys:List RV)(rs:List PR):Prop:=rs.length=ys.length/\(∀y∈ys,y.d.length=32)/\∀(i:Nat)(y:RV)(r:PR),ys[i]?=some y->rs[i]?=some r->RefAt K w y r
theorem RefsAt.go{L:Nat->Prop}(hk:Keep K L w w')(h:RefsAt K w ys rs):RefsAt L w' ys rs:=⟨h.1,h.2.1,λi y r h1 h2=>(h.2.2 i y r h1 h2).go hk⟩
theorem RefsAt.snoc{r:PR}(h:RefsAt K w ys rs)(hy:RefAt K w y r):RefsAt K w (ys++[y]) (rs++[r]):=by
 refine⟨by simp[h.1],λz hz=>?_,λi z s h1 h2=>?_⟩
 ·rcases Bc.1 hz with hz|hz
  ·exact h.2.1 z hz
  ·simp only[AP,Cj,Et]at hz;rw[hz];exact hy.len
 ·by_cases hi:i<ys.length
  ·rw[AV hi]at h1;rw[AV (by rw[h.1];exact hi)]at h2;exact h.2.2 i z s h1 h2
  ·have hi2:i=ys.length:=by
    have:=(Aw.1 h1).1;simp at this;omega
   subst hi2;simp at h1;rw[<-h.1]at h2;simp at h2;rw[<-h1,<-h2];exact hy
theorem Sl{pre:List RV}(hp:∀z∈pre,z.d.length=32){j:Nat}{u:Value}(h:y.cells[j]?=some u):(flatR (pre++y::post))[pre.length*34+j]?=some u:=by
 have e:flatR (pre++y::post)=flatR pre++(y.cells++flatR post):=by
  rw[GD,show y::post=[y]++post from rfl,GD,JZ]
 rw[e,AS (by rw[FU hp];omega),FU hp,show pre.length*34+j-pre.length*34=j from by omega,AV (Aw.1 h).1];exact h
theorem Qz{g:Nat}(hr:w.heap[g]?=some (.cells (flatR ys).toArray 65))(hK:K g)(h:RefsAt K w ys rs):KidsAt K w (some ⟨g,0,none⟩) rs:=λj r hj=>by
 have hjl:j<ys.length:=by rw[<-h.1];exact(Aw.1 hj).1
 refine⟨g,0,ys[j],rfl,hK,λk u hu=>?_,h.2.2 j _ r (Ac hjl) hj⟩;rw[Ad _ _ _ _ _ _ hr,Dg];have e:ys=ys.take j++ys[j]::ys.drop (j+1):=by rw[<-Bz hjl,Be]
 have hl:(ys.take j).length=j:=by rw[Am];omega
 have hf:=Sl (pre:=ys.take j) (post:=ys.drop (j+1)) (λz hz=>h.2.1 z (Bn hz)) hu;rw[hl,<-e]at hf;rw[show 0+j*34+k=j*34+k from by omega];exact hf
theorem V9{pre:List RV}{z:RV}(hp:∀x∈pre,x.d.length=32)(hz:z.d.length=32):
 (flatR (pre++z::post)).take (pre.length*34)++y.cells++(flatR (pre++z::post)).drop (pre.length*34+34)=flatR (pre++y::post):=by
 have e:∀x:RV,flatR (pre++x::post)=flatR pre++(x.cells++flatR post):=λx=>by
  rw[GD,show x::post=[x]++post from rfl,GD,JZ]
 rw[e z,e y];have l1:=FU hp;rw[Cs (by omega),A8 (by omega),List.drop_append,Bq (by omega),AL,l1,show pre.length*34+34-pre.length*34=34 from by omega,List.drop_append,Bq (by rw[RV.len hz];omega),AL,RV.len hz,Cc,Cw,A9]
section
variable {w : World} {ops : Array Oper} {rest : List Oper} {o : Oper} {a : Act} {Q : Exit → Act → World → Prop}
theorem Pf(hw:Region.wanted o (yielded ops a.tmps)=true)(x y:Operand)(ho:o.op= .store 65 x y)(g off:Nat)(r:RV)(hl:r.d.length=32)(hx:a.eval x= .pointer (some ⟨g,off,none⟩))(hy:a.eval y= .agg r.cells.toArray)(t:TypeId)(cur:Array Value)
 (hg:w.heap[g]?=some (.cells cur t (0,0))) (hfit:off+34<=cur.size) (h:wpList prog ops Q rest (a.put o.dst undef) (w.setRow g (cur.toList.take off++r.cells++cur.toList.drop (off+34)).toArray)):wpList prog ops Q (o::rest) a w:=
 LN hw λK hK=>by
  unfold Oper.wp;rw[Qy ho g off r hl hx hy t cur hg hfit,Fl];exact hK _ _ h
end
structure Pb(w v:World)(y:V):Prop where
 row:v.heap[w.heap.size+1]?=some (.cells nz.cells.toArray 68)
 bx:B1 w.heap.size v y
 bel:Below w.heap.size w v
 sz:v.heap.size=w.heap.size+2
theorem VB(w:World)(y:V):Pb w ((w.alloc (.cells #[.bool y.l, .slice y.ba y.bn y.bc, .slice y.ia y.m y.ic] 109)).alloc (.cells nz.cells.toArray 68)) y:=by
 have s1:(w.alloc (.cells #[.bool y.l, .slice y.ba y.bn y.bc, .slice y.ia y.m y.ic] 109)).heap.size=w.heap.size+1:=by simp
 refine⟨?_,(EP w y).alloc _,below_go (below_new w _) (below_new _ _),by simp⟩;have:=Aj (w.alloc (.cells #[.bool y.l, .slice y.ba y.bn y.bc, .slice y.ia y.m y.ic] 109)) (.cells nz.cells.toArray 68);rwa [s1]at this
def nvB(y:V)(gk:Nat):NV:=⟨3,none,0,0,y.ba,y.bn,y.bc,rz,some ⟨gk,0,none⟩,16,16⟩
structure Bk(w u:World)(y:V)(gk gn:Nat)(C:List RV):Prop where
 row:u.heap[w.heap.size+1]?=some (.cells nz.cells.toArray 68)
 bx:B1 w.heap.size u y
 nb:NBx gn u (nvB y gk)
 kr:u.heap[gk]?=some (.cells (flatR C).toArray 65)
 bel:Below w.heap.size w u
 gk2:w.heap.size+2<=gk/\gk<w.heap.size+4
 gn2:w.heap.size+2<=gn/\gn<w.heap.size+4
 ne:gk≠gn
 sz:w.heap.size+4<=u.heap.size
theorem Bk.go{u':World}{y:V}(h:Bk w u y gk gn C)(hb:Below u.heap.size u u'):Bk w u' y gk gn C:=
 ⟨Below.row hb h.row,h.bx.go hb,h.nb.go hb,Below.row hb h.kr,below_go h.bel hb,h.gk2,h.gn2,h.ne,Ar h.sz hb.size⟩
theorem Bk.put{y:V}{D:List RV}(h:Bk w u y gk gn C):Bk w (u.setRow gk (flatR D).toArray) y gk gn D:=
 ⟨(Bf _ _ _ _ (by have:=h.gk2;omega)).trans h.row,Ed h.bx (by have:=h.gk2;omega),⟨(Bf _ _ _ _ (Ne.symm h.ne)).trans h.nb.row,h.nb.l⟩,AE _ _ _ _ _ _ h.kr,Below.setRow h.bel (by have:=h.gk2;omega) _,h.gk2,h.gn2,h.ne,by simpa using h.sz⟩
theorem Q0{base:Nat}(h:RefsAt (Own base w) w ys rs)(hb:Below w.heap.size w w'):RefsAt (Own base w') w' ys rs:=h.go (Keep.own hb (Aa _))
theorem LT(P:Nat->Prop)(ts:List T)(a:Option Addr)(c:Nat)(u:T)(y:V)(w:World)(h16:ts.length=16)(hall:LiesAll w ts a 0)(hc:16<=c/\c<=maxLen)(hy:LiesP P w u y)(hb:∀g,w.heap.size<=g->P g):
 Calls prog 149 #[.slice a 16 c, .agg #[.bool y.l, .slice y.ba y.bn y.bc, .slice y.ia y.m y.ic]] w (NPost P w (branchP ts u)):=by
 obtain⟨l2,bs2,its2⟩:=u;obtain⟨⟨hl2,-⟩,-⟩:=liesP_eq.1 hy;subst hl2;obtain⟨hc1,hc2⟩:=hc;unfold maxLen at hc2;have HY:=ZQ hy;have HBASE:=ZQ hb;have H16:=ZQ h16;have HALL:=ZQ hall;obtain⟨res,hres⟩:∃res,branchP ts (.mk y.l bs2 its2)=res:=⟨_,rfl⟩;rw[hres]
 have hres:(match kidsP ts with
  |none=>none
  |some ks=>if y.l=true then none else some (⟨3,[],bs2,r0,ks⟩:PN))=res:=hres
 have HRES:=ZQ hres;have HPB0:=ZQ (VB w y);clear hres hy hb h16 hall;go_enter func149,ntmps149;go_upto_region 1 with fail;refine gen_w (p:=λv=>Code.wp _ _ _ _ v) (q:=λv=>Pb w v y) HPB0.out ?_;clear HPB0;intro v P0;have HPB:=ZQ P0;clear P0;have HSZ:=ZQ HPB.out.sz
 go_cut [6]from 6 to 14 (λs6 u=>∃gk gn,s6= .pointer (some ⟨gn,0,none⟩)/\Bk w u y gk gn (List.replicate 16 rz))
 case first=>
  have HS1:=ZQ (show(v.drew.alloc (.cells (flatR (List.replicate 16 rz)).toArray 65)).heap.size=v.heap.size+1 from by simp);have HS2:=ZQ (show(v.drew.alloc (.cells nz.cells.toArray 68)).heap.size=v.heap.size+1 from by simp);have HROWA:=ZQ (show((v.drew.alloc (.cells (flatR (List.replicate 16 rz)).toArray 65)).alloc (.cells nz.cells.toArray 68)).heap[v.heap.size+1]?=some (.cells nz.cells.toArray 68)from by rw[<-HS1.out];exact heap_alloc_new _ _);have HROWB:=ZQ (show((v.drew.alloc (.cells nz.cells.toArray 68)).alloc (.cells (flatR (List.replicate 16 rz)).toArray 65)).heap[v.heap.size]?=some (.cells nz.cells.toArray 68)from(heap_alloc_old _ _ (by rw[HS2.out];omega)).trans (heap_alloc_new v.drew _))
  have HBKA:=ZQ (show Bk w (((v.drew.alloc (.cells (flatR (List.replicate 16 rz)).toArray 65)).alloc (.cells nz.cells.toArray 68)).setRow (v.heap.size+1) (nvB y v.heap.size).cells.toArray) y v.heap.size (v.heap.size+1) (List.replicate 16 rz)from by
   have hs:=HPB.out.sz;have hbl:Below v.heap.size v ((v.drew.alloc (.cells (flatR (List.replicate 16 rz)).toArray 65)).alloc (.cells nz.cells.toArray 68)):=below_go (below_go (Below.refl _ _).drew (below_new _ _)) (below_new _ _);refine⟨(setRow_other _ _ _ _ (by omega)).trans (Below.row hbl HPB.out.row),Ed (HPB.out.bx.go hbl) (by omega),⟨setRow_heap _ _ _ _ _ _ HROWA.out,rfl⟩,(setRow_other _ _ _ _ (by omega)).trans ((heap_alloc_old _ _ (by rw[HS1.out];omega)).trans (heap_alloc_new v.drew _)),Below.setRow (below_go HPB.out.bel hbl) (by omega) _,⟨by omega,by omega⟩,⟨by omega,by omega⟩,by omega,by simp[hs]⟩)
  have HBKB:=ZQ (show Bk w (((v.drew.alloc (.cells nz.cells.toArray 68)).alloc (.cells (flatR (List.replicate 16 rz)).toArray 65)).setRow v.heap.size (nvB y (v.heap.size+1)).cells.toArray) y (v.heap.size+1) v.heap.size (List.replicate 16 rz)from by
   have hs:=HPB.out.sz;have hbl:Below v.heap.size v ((v.drew.alloc (.cells nz.cells.toArray 68)).alloc (.cells (flatR (List.replicate 16 rz)).toArray 65)):=below_go (below_go (Below.refl _ _).drew (below_new _ _)) (below_new _ _);refine⟨(setRow_other _ _ _ _ (by omega)).trans (Below.row hbl HPB.out.row),Ed (HPB.out.bx.go hbl) (by omega),⟨setRow_heap _ _ _ _ _ _ HROWB.out,rfl⟩,(setRow_other _ _ _ _ (by omega)).trans (by rw[<-HS2.out];exact heap_alloc_new _ _),Below.setRow (below_go HPB.out.bel hbl) (by omega) _,⟨by omega,by omega⟩,⟨by omega,by omega⟩,by omega,by simp[hs]⟩)
  refine wp_region_held_drew (S:=λv=>B1 w.heap.size v y) (by kernel_rfl) ⟨HPB.out.bx.c0,HPB.out.bx.c1,HPB.out.bx.c2⟩ (λhS=>?_);refine Bm 0 11 (.pointer (some ⟨w.heap.size,1,none⟩)) rfl rfl (by kernel_rfl) (by kernel_rfl) (by kernel_rfl) (λ_ _ _ h=>h) (by kernel_rfl) (λv _=>by kernel_rfl) hS ?_;refine Bm 1 12 (.slice y.ba y.bn y.bc) rfl rfl (by kernel_rfl) (by kernel_rfl) (by kernel_rfl) (λ_ _ _ h=>h) (by kernel_rfl) (λv hv=>Gf rfl (by kernel_rfl) hv.c1) hS ?_;refine wpAnyH_ready (rs:=[2,4]) (by kernel_rfl) (by simp) ?_;refine CE 2 13 (.slice (some ⟨v.heap.size,0,none⟩) 16 16) rfl rfl (by kernel_rfl) (MY rfl) (hS.alloc _) ?_ ?_
  ·refine Bm 3 14 (.agg (nvB y v.heap.size).cells.toArray) rfl rfl (by kernel_rfl) (by kernel_rfl) (by kernel_rfl) (λ_ _ _ h=>h) (by kernel_rfl) (λv' _=>Eo 68 _ rfl [(0, .int .i64 3),(2, .slice y.ba y.bn y.bc),(4, .slice (some ⟨v.heap.size,0,none⟩) 16 16)] (by kernel_rfl) _ (OT _ _ _ _ _ _)) (hS.alloc _) ?_;refine wpAnyH_ready (rs:=[4]) (by kernel_rfl) (by simp) ?_;refine CE 4 6 (.pointer (some ⟨v.heap.size+1,0,none⟩)) rfl rfl (by kernel_rfl) ((I7 rfl).trans (by rw[HS1.out])) ((hS.alloc _).alloc _) ?_ AllReadyH.nil;refine wpAnyH_ready (rs:=[5]) (by kernel_rfl) (by simp) ?_;refine DO 5 rfl rfl (by kernel_rfl) (DG 68 _ _ rfl (v.heap.size+1) (nvB y (v.heap.size)).cells.toArray (by kernel_rfl) (by kernel_rfl) 68 nz.cells.toArray HROWA.out (CF rfl) (Cu rfl) (all_oneCell_toArray (NV.one _))) ?_ ?_ AllReadyH.nil
   ·exact Ed ((hS.alloc _).alloc _) (by have:=HPB.out.sz;omega)
   refine wpAnyH_done (by kernel_rfl) ?_ _
   go_frame
   go_wp2_with fail
   go_meet
   refine⟨v.heap.size,v.heap.size+1,rfl,?_⟩;exact HBKA.out
  refine CE 4 6 (.pointer (some ⟨v.heap.size,0,none⟩)) rfl rfl (by kernel_rfl) (I7 rfl) (hS.alloc _) ?_ AllReadyH.nil;refine wpAnyH_ready (rs:=[2]) (by kernel_rfl) (by simp) ?_;refine CE 2 13 (.slice (some ⟨v.heap.size+1,0,none⟩) 16 16) rfl rfl (by kernel_rfl) ((MY rfl).trans (by rw[HS2.out])) ((hS.alloc _).alloc _) ?_ AllReadyH.nil;refine Bm 3 14 (.agg (nvB y (v.heap.size+1)).cells.toArray) rfl rfl (by kernel_rfl) (by kernel_rfl) (by kernel_rfl) (λ_ _ _ h=>h) (by kernel_rfl) (λv' _=>Eo 68 _ rfl [(0, .int .i64 3),(2, .slice y.ba y.bn y.bc),(4, .slice (some ⟨v.heap.size+1,0,none⟩) 16 16)] (by kernel_rfl) _ (OT _ _ _ _ _ _)) ((hS.alloc _).alloc _) ?_;refine wpAnyH_ready (rs:=[5]) (by kernel_rfl) (by simp) ?_;refine DO 5 rfl rfl (by kernel_rfl) (DG 68 _ _ rfl (v.heap.size) (nvB y (v.heap.size+1)).cells.toArray (by kernel_rfl) (by kernel_rfl) 68 nz.cells.toArray HROWB.out (CF rfl) (Cu rfl) (all_oneCell_toArray (NV.one _))) ?_ ?_ AllReadyH.nil
  ·exact Ed ((hS.alloc _).alloc _) (by have:=HPB.out.sz;omega)
  refine wpAnyH_done (by kernel_rfl) ?_ _
  go_frame
  go_wp2_with fail
  go_meet
  refine⟨v.heap.size+1,v.heap.size,rfl,?_⟩;exact HBKB.out
 case rest=>
  obtain⟨gk,gn,rfl,BK⟩:=hcut;have HBK:=ZQ BK;clear BK HPB HSZ;go_wp2_with fail
  go_loopw [17] (λs17 u=>∃j:Nat,j<=16/\s17= .int .i64 j/\∃(ys:List RV)(rs:List PR),kidsP (ts.take j)=some rs/\ys.length=j/\Bk w u y gk gn (ys++List.replicate (16-j) rz)/\RefsAt (Own (w.heap.size+4) u) u ys rs) (λs17 _=>16-(intOf s17).toNat)
  case atStart=>exact⟨0,by omega,rfl,[],[],rfl,rfl,HBK.out,rfl,(λy hy=>by cases hy),λi y r h=>by simp at h⟩
  case round=>
   obtain⟨j,hj,rfl,ys,rs,hkp,hyl,BK,hra⟩:=hrel;have HKP:=ZQ hkp;have HYL:=ZQ hyl;have HB:=ZQ BK;have HRA:=ZQ hra;clear hkp hyl BK hra HBK;by_cases hlt:j<16
   ·have hji:(j:Int)<16:=(by omega);obtain⟨t,ht⟩:∃t,ts[j]?=some t:=⟨_,List.getElem?_eq_getElem (by rw[H16.out];exact hlt)⟩;obtain⟨g,off,x,A⟩:=Eh HALL.out j t ht;rw[Nat.zero_add]at A;have ha:=A.ha;subst ha;have y0:=AW HB.out.bel A.c0;have y1:=AW HB.out.bel A.c1;have y2:=AW HB.out.bel A.c2;have HA:=ZQ A;have HT:=ZQ ht;clear A ht;go_upto_region 5 with fail;refine gen_w (p:=λv=>Code.wp _ _ _ _ v) (q:=λv=>B1 wr.heap.size v x/\Below wr.heap.size wr v) ⟨EP wr x,below_new wr _⟩ ?_;rintro v1⟨B,hb⟩;have c0:=B.c0;have c1:=B.c1;have c2:=B.c2;have HB1:=ZQ (HB.out.go hb);have HRA1:=ZQ (Q0 HRA.out hb);have HRO:=ZQ (MU t x v1 (Ci (below_go HB.out.bel hb) t x HA.out.li));clear B hb y0 y1 y2 HB HRA;go_wp2_with fail;refine HRO.out.mono ?_;intro e w2 hp;obtain⟨hb2,hp⟩:=hp;have HB2:=ZQ (HB1.out.go hb2);have HRA2:=ZQ (Q0 HRA1.out hb2);have HV1:=ZQ HB1.out.sz;cases hq:refOfP t with
    |none=>
     rw[hq]at hp;obtain⟨r',hl',rfl⟩:=hp;have HL:=ZQ hl';have hr:=HRES.out;rw[MZ (List.mem_of_getElem? HT.out) hq]at hr;subst hr;clear hb2 hq hl' c0 c1 c2 HRO;go_upto_region 6 with(first|refine wpList_store_row rfl 65 _ _ rfl _ r'.cells.toArray rfl rfl 65 _ (heap_alloc_new _ _) (Dn HL.out) (DA HL.out) (all_oneCell_toArray (RV.one _)) ?_);refine gen_w (p:=λv=>Code.wp _ _ _ _ v) (q:=λv=>Bk w v y gk gn (ys++List.replicate (16-j) rz)) (HB2.out.go (Below.setRow (below_new w2 _) (Nat.le_refl _) _)) ?_;intro v3 B3;have HB3:=ZQ B3;clear B3;go_wp2_with (first|refine wpList_store_row rfl 68 _ _ rfl _ nz.cells.toArray rfl rfl 68 _ HB3.out.row (CF rfl) (Cu rfl) (all_oneCell_toArray (NV.one _)) ?_);refine bodyPost_ret (BW results149 _ _ (w.heap.size+1) nz rfl rfl (setRow_heap _ _ _ _ _ _ HB3.out.row)) rfl ?_;exact⟨Below.setRow HB3.out.bel (by omega) _,nz,rfl,rfl⟩
    |some r=>
     rw[hq]at hp;obtain⟨r',rfl,hy'⟩:=hp;have HL:=ZQ hy'.len;have HYR:=ZQ hy';have HKS:=ZQ (show kidsP (ts.take (j+1))=some (rs++[r])from by rw[List.take_add_one,HT.out];exact Na HKP.out hq);clear hb2 hq hy' c0 c1 c2 HRO;go_upto_region 6 with(first|refine wpList_store_row rfl 65 _ _ rfl _ r'.cells.toArray rfl rfl 65 _ (heap_alloc_new _ _) (Dn HL.out) (DA HL.out) (all_oneCell_toArray (RV.one _)) ?_);refine gen_w (p:=λv=>Code.wp _ _ _ _ v) (q:=λv=>RBx w2.heap.size v r'/\Bk w v y gk gn (ys++List.replicate (16-j) rz)/\RefsAt (Own (w.heap.size+4) v) v (ys++[r']) (rs++[r])) ⟨⟨setRow_heap _ _ _ _ _ _ (heap_alloc_new _ _),HL.out⟩,HB2.out.go (Below.setRow (below_new w2 _) (Nat.le_refl _) _),?_⟩ ?_
     ·have hbz:=Below.setRow (below_new w2 (.cells rz.cells.toArray 65)) (Nat.le_refl _) r'.cells.toArray;exact(Q0 HRA2.out hbz).snoc (HYR.out.go (Keep.own hbz HV1.out))
     rintro v3⟨BR,B3,R3⟩;have c37:=B3.nb.c37;have HBR:=ZQ BR;have HB3:=ZQ B3;have HR3:=ZQ R3;have HZR:=ZQ (show List.replicate (16-j) rz=rz::List.replicate (16-(j+1)) rz from by rw[show 16-j=(16-(j+1))+1 from by omega,List.replicate_succ]);have hkr:=B3.kr;rw[HZR.out]at hkr;have HKR:=ZQ hkr;have HPRE:=ZQ (show∀x∈ys,x.d.length=32 from λx hx=>R3.2.1 x (List.mem_append_left _ hx))
     have HFIT:=ZQ (show j*34+34<=(flatR (ys++rz::List.replicate (16-(j+1)) rz)).toArray.size from by
      rw[List.size_toArray,FU (λx hx=>by
       rcases List.mem_append.1 hx with hx|hx
       ·exact HPRE.out x hx
       ·rcases List.mem_cons.1 hx with rfl|hx
        ·rfl
        ·rw[(List.mem_replicate.1 hx).2];rfl)]
      have:=HYL.out;simp;omega)
     clear BR B3 R3 hkr;rw[show(nvB y gk).ka=some ⟨gk,0,none⟩from rfl,show(nvB y gk).kn=16 from rfl,show(nvB y gk).kc=16 from rfl]at c37;go_upto_region 9 with(first|refine Cy rfl _ rfl w2.heap.size 0 rfl r' HL.out HBR.out.all ?_|refine Pf rfl _ _ rfl gk (j*34) r' HL.out rfl rfl 65 _ HKR.out HFIT.out ?_);refine gen_w (p:=λv=>Code.wp _ _ _ _ v) (q:=λv=>Bk w v y gk gn ((ys++[r'])++List.replicate (16-(j+1)) rz)/\RefsAt (Own (w.heap.size+4) v) v (ys++[r']) (rs++[r])) ?_ ?_
     ·have hf:=V9 (pre:=ys) (z:=rz) (y:=r') (post:=List.replicate (16-(j+1)) rz) HPRE.out rfl;rw[HYL.out]at hf;rw[hf,show ys++r'::List.replicate (16-(j+1)) rz=(ys++[r'])++List.replicate (16-(j+1)) rz from by simp];exact⟨HB3.out.put,HR3.out.go (Keep.setRow (base:=w.heap.size+4) (base':=w.heap.size+4) (g:=gk) (by have:=HB3.out.gk2;omega) (Nat.le_refl _))⟩
     rintro v4⟨B4,R4⟩;have HB4:=ZQ B4;have HR4:=ZQ R4;clear B4 R4 c37;go_wp2_with fail;exact⟨⟨j+1,by omega,by simp,ys++[r'],rs++[r],HKS.out,by have:=HYL.out;simp;omega,HB4.out,HR4.out⟩,by simp[intOf];omega⟩
   ·have hji:¬(j:Int)<16:=(by omega);have hj16:j=16:=(by omega);subst hj16;have hkp:=HKP.out;rw[List.take_of_length_le (by rw[H16.out];omega)]at hkp;have hr:=HRES.out;rw[hkp]at hr;have hr:(if y.l=true then none else some (⟨3,[],bs2,r0,rs⟩:PN))=res:=hr;have HR:=ZQ hr;have hB:=HB.out;rw[show ys++List.replicate (16-16) rz=ys from by simp]at hB;have HBF:=ZQ hB;clear hkp hr hB HB hj;go_upto_region 10 with fail;rename_i KK hkk;refine wp_region_held_drew (S:=λv=>NBx gn v (nvB y gk)/\B1 w.heap.size v y) (by kernel_rfl) ⟨⟨HBF.out.nb.row,HBF.out.nb.l⟩,HBF.out.bx.c0,HBF.out.bx.c1,HBF.out.bx.c2⟩ (λhS=>?_);refine Bm 0 36 (.agg (nvB y gk).cells.toArray) rfl rfl (by kernel_rfl) (by kernel_rfl) (by kernel_rfl) (λ_ _ _ h=>h) (by kernel_rfl) (λv hv=>Tl rfl (by kernel_rfl) hv.1) hS ?_;refine Bm 1 37 (.pointer (some ⟨w.heap.size,0,none⟩)) rfl rfl (by kernel_rfl) (by kernel_rfl) (by kernel_rfl) (λ_ _ _ h=>h) (by kernel_rfl) (λv _=>by kernel_rfl) hS ?_;refine Bm 2 38 (.bool y.l) rfl rfl (by kernel_rfl) (by kernel_rfl) (by kernel_rfl) (λ_ _ _ h=>h) (by kernel_rfl) (λv hv=>OS rfl (by kernel_rfl) hv.2.c0) hS ?_;refine Bm 3 39 (.bool (!y.l)) rfl rfl (by kernel_rfl) (by kernel_rfl) (by kernel_rfl) (λ_ _ _ h=>h) (by kernel_rfl) (λv _=>by kernel_rfl) hS ?_;refine wpAnyH_ready (rs:=[4]) (by kernel_rfl) (by simp) ?_;refine DO 4 rfl rfl (by kernel_rfl) (DG 68 _ _ rfl (w.heap.size+1) (nvB y gk).cells.toArray (by kernel_rfl) (by kernel_rfl) 68 nz.cells.toArray HBF.out.row (CF rfl) (Cu rfl) (all_oneCell_toArray (NV.one _))) ?_ ?_ AllReadyH.nil
    ·exact⟨⟨(setRow_other _ _ _ _ (by have:=HBF.out.gn2;omega)).trans hS.1.row,hS.1.l⟩,Ed hS.2 (by omega)⟩
    refine Bm 5 5 (.bool (!y.l)) rfl rfl (by kernel_rfl) (by kernel_rfl) (by kernel_rfl) (λ_ _ _ h=>h) (by kernel_rfl) (λv _=>by kernel_rfl) ⟨⟨(setRow_other _ _ _ _ (by have:=HBF.out.gn2;omega)).trans hS.1.row,hS.1.l⟩,Ed hS.2 (by omega)⟩ ?_;refine wpAnyH_done (by kernel_rfl) ?_ _;refine hkk _ _ ?_;refine GB results149 (λh=>h) (w.heap.size+1) (nvB y gk) (.bool (!y.l)) rfl (by kernel_rfl) (by kernel_rfl) (by kernel_rfl) (setRow_heap _ _ _ _ _ _ HBF.out.row) ?_;refine⟨Below.setRow HBF.out.bel.drew (by omega) _,?_⟩;have hr:=HR.out;cases hyl:y.l with
    |true=>
     rw[hyl,if_pos rfl]at hr;subst hr;exact⟨nvB y gk,rfl,rfl⟩
    |false=>
     rw[hyl,if_neg (by simp)]at hr;subst hr;have hkr:(wr.drew.setRow (w.heap.size+1) (nvB y gk).cells.toArray).heap[gk]?=some (.cells (flatR ys).toArray 65):=(setRow_other _ _ _ _ (by have:=HBF.out.gk2;omega)).trans HBF.out.kr
     have hk1:Keep (Own (w.heap.size+4) wr) (OwnP P (wr.drew.setRow (w.heap.size+1) (nvB y gk).cells.toArray)) wr (wr.drew.setRow (w.heap.size+1) (nvB y gk).cells.toArray):=
      Keep.setRowP (v:=wr.drew) (base:=w.heap.size+4) (by omega) (λk hk=>HBASE.out k (by omega))
     have hk2:Keep (OwnP P w) (OwnP P (wr.drew.setRow (w.heap.size+1) (nvB y gk).cells.toArray)) w (wr.drew.setRow (w.heap.size+1) (nvB y gk).cells.toArray):=λk hK hk=>by
      have e:(wr.drew.setRow (w.heap.size+1) (nvB y gk).cells.toArray).heap[k]?=w.heap[k]?:=(setRow_other _ _ _ _ (by omega)).trans (HBF.out.bel.block k hk);exact⟨e,hK.1,λo=>(World.frozen?_of_block (w:=w) e).trans (hK.2 o)⟩
     have hra:=HRA.out.go hk1;have hrl:rs.length=16:=(by rw[hra.1,HYL.out]);refine⟨nvB y gk,rfl,rfl,FP _ _,(I3 HY.out).go hk2,Fx _ _,⟨hrl.symm,Nat.le_refl _,by show 16<=maxLen;unfold maxLen;omega,by show 16<=2199023255488;omega,λh=>by cases h⟩,?_⟩;exact Qz hkr ⟨HBASE.out gk (by have:=HBF.out.gk2;omega),λo=>frozen_of_row _ _ _ _ _ hkr⟩ hra
structure AtP(P:Nat->Prop)(w:World)(a:Option Addr)(k:Nat)(t:T)(g off:Nat)(y:V):Prop where
 ha:a=some ⟨g,off,none⟩
 c0:w.cell? ⟨g,off+k*3,none⟩=some (.bool y.l)
 c1:w.cell? ⟨g,off+k*3+1,none⟩=some (.slice y.ba y.bn y.bc)
 c2:w.cell? ⟨g,off+k*3+2,none⟩=some (.slice y.ia y.m y.ic)
 li:LiesP P w t y
theorem DP{P:Nat->Prop}{w:World}{a:Option Addr}:∀{its:List T}{k:Nat},LiesPAll P w its a k->∀(i:Nat)(t:T),its[i]?=some t->∃g off y,AtP P w a (k+i) t g off y
 |[],k,_,i,t,h=>by simp at h
 |x::r,k,hl,i,t,h=>by
  obtain⟨⟨g,off,y,⟨h1,_⟩,h2,h3,h4,h5⟩,hr⟩:=liesPAll_cons.1 hl;cases i with
  |zero=>simp at h;subst h;exact⟨g,off,y,h1,h2,h3,h4,h5⟩
  |succ i=>
   obtain⟨g',off',y',A⟩:=DP hr i t (by simpa using h);rw[show k+1+i=k+(i+1)from by omega]at A;exact⟨g',off',y',A⟩
theorem JE{w:World}{a:Option Addr}:∀{its:List T}{k:Nat}(n:Nat),LiesAll w its a k->LiesAll w (its.take n) a k
 |_,_,0,_=>by rw[BL];exact DD
 |[],_,n+1,_=>by rw[List.take_nil];exact DD
 |x::r,k,n+1,h=>by
  rw[CG];obtain⟨h1,h2⟩:=liesAll_cons.1 h;exact liesAll_cons.2 ⟨h1,JE n h2⟩
theorem JF{w w':World}(hb:Below w.heap.size w w'){a:Option Addr}:∀{its:List T}{k:Nat},LiesAll w its a k->LiesAll w' its a k
 |[],_,_=>DD
 |t::r,k,h=>by
  obtain⟨⟨g,off,y,h1,h2,h3,h4,h5⟩,hr⟩:=liesAll_cons.1 h;exact liesAll_cons.2 ⟨⟨g,off,y,h1,AW hb h2,AW hb h3,AW hb h4,Ci hb t y h5⟩,JF hb hr⟩
theorem K8{P:Nat->Prop}{o:Option PN}{e:Ending}(h:NPost P w o e w'):∃v,e= .returned v/\(Below w.heap.size w w'/\∃(y:NV)(b:Bool),y.c.d.length=32/\v= .tuple #[.agg y.cells.toArray, .bool b]/\b=o.isSome/\∀n,o=some n->NodeAt (OwnP P w') w' y n):=by
 obtain⟨hb,hm⟩:=h;cases o with
 |none=>
  obtain⟨y,hl,e1⟩:=hm;exact⟨_,e1,hb,y,false,hl,rfl,rfl,λn h=>by cases h⟩
 |some n=>
  obtain⟨y,e1,hn⟩:=hm;exact⟨_,e1,hb,y,true,hn.c.len,rfl,rfl,λm h=>by cases h;exact hn⟩
section
variable {a : Act} {w : World}
theorem Q1{x:Operand}{g off m c:Nat}{o:Oper}(ho:o.op= .slice 107 x none (some (.const (.int .i64 16))) none)(hx:a.eval x= .slice (some ⟨g,off,none⟩) m c)(hc:16<=c)(hm:c<=9223372036854775807):(execOp a.eval o).run prog w= .ok (.value (.slice (some ⟨g,off,none⟩) 16 c)) w:=by
 have h1:(16:Int)<=c:=by omega
 unfold execOp;rw[ho];simp only[hx,Option.map];go_simp
end
theorem Q2(base:Nat)(t:T)(x:V)(w:World)(h:LiesP (λb=>base<=b) w t x)(hb:base<=w.heap.size)(hsz:∀u∈t.its,u.bs.length<=16777216):
 Calls prog 133 #[.agg #[.bool x.l, .slice x.ba x.bn x.bc, .slice x.ia x.m x.ic]] w (NPost (λg=>base<=g) w (nodeOfP t)):=by
 obtain⟨l,bs,its⟩:=t;have hsz:∀u∈its,u.bs.length<=16777216:=hsz;have hq:LiesP (λg=>base<=g/\g≠w.heap.size+1) w (.mk l bs its) x:=B6 (λb hb hlt=>⟨rfl,hb,by omega⟩) _ x h;obtain⟨⟨hl,-,hm,hmc,hcm,-⟩,hall⟩:=liesP_eq.1 hq;have hlall:=(lies_eq.1 (Dj _ _ hq)).2.2.2.2.2.2;unfold maxLen at hcm;subst hl;have HM:=ZQ hm;have HALL:=ZQ hall;have HLA:=ZQ hlall;have HSZ:=ZQ hsz;obtain⟨res,hres⟩:∃res,nodeOfP (.mk x.l bs its)=res:=⟨_,rfl⟩;rw[hres];have hres:(if its.length=2 then pathP (its.getD 0 t0) (its.getD 1 t0)else if its.length=17 then branchP (its.take 16) (its.getD 16 t0)else none)=res:=hres;rw[<-hm]at hres;have HRES:=ZQ hres;have HPB0:=ZQ (VB w x);have HBASE:=ZQ hb;clear h hb hsz hq hm hall hlall hres;go_enter func133,ntmps133;go_upto_region 1 with fail;refine gen_w (p:=λv=>Code.wp _ _ _ _ v) (q:=λv=>Pb w v x) HPB0.out ?_;clear HPB0;intro v P0;have c2:=P0.bx.c2;have HPB:=ZQ P0;clear P0;have HSC:=ZQ (show∀w',Below v.drew.heap.size v.drew w'->B1 w.heap.size w' x/\Below w.heap.size w w' from λw' hb=>⟨HPB.out.bx.go (below_go (Ak _ _).drew hb),below_go HPB.out.bel.drew hb⟩);have HSP:=ZQ (show∀(w':World)(C:Array Value),B1 w.heap.size w' x/\Below w.heap.size w w'->B1 w.heap.size (w'.setRow (w.heap.size+1) C) x/\Below w.heap.size w (w'.setRow (w.heap.size+1) C)from λw' C h=>⟨Ed h.1 (by omega),Below.setRow h.2 (by omega) _⟩);have HS0:=ZQ (show B1 w.heap.size v.drew x/\Below w.heap.size w v.drew from⟨⟨HPB.out.bx.c0,HPB.out.bx.c1,HPB.out.bx.c2⟩,HPB.out.bel.drew⟩)
 have HEND:=ZQ (show∀(w2:World)(y':NV)(b:Bool),y'.c.d.length=32->b=res.isSome->(∀n,res=some n->NodeAt (OwnP (λg=>base<=g/\g≠w.heap.size+1) w2) w2 y' n)->B1 w.heap.size w2 x/\Below w.heap.size w w2->NPost (λg=>base<=g) w res (.returned (.tuple #[.agg y'.cells.toArray, .bool b])) (w2.setRow (w.heap.size+1) y'.cells.toArray)from λw2 y' b hl' hbr hna hS=>by
  refine⟨Below.setRow hS.2 (by omega) _,?_⟩;subst hbr;cases res with
  |none=>exact⟨y',hl',rfl⟩
  |some n=>
   refine⟨y',rfl,(hna n rfl).go λk hK hk=>?_⟩;have e:(w2.setRow (w.heap.size+1) y'.cells.toArray).heap[k]?=w2.heap[k]?:=Bf _ _ _ _ hK.1.2;exact⟨e,hK.1.1,λo=>(BM (w:=w2) e).trans (hK.2 o)⟩)
 have HPP:=ZQ (show∀g,v.drew.heap.size<=g->(base<=g/\g≠w.heap.size+1)from λg hg=>by
  have h1:v.heap.size<=g:=hg;have:=HPB.out.sz;have:=HBASE.out;omega)
 by_cases h2:x.m=2
 ·have hr:=HRES.out;rw[Ai h2]at hr;have hl2:its.length=2:=by rw[<-HM.out,h2]
  rw[h2]at c2;obtain⟨g,off,y0,A0⟩:=DP HALL.out 0 (its.getD 0 t0) (by rw[List.getD,Ac (by omega)];rfl);obtain⟨g1,off1,y1,A1⟩:=DP HALL.out 1 (its.getD 1 t0) (by rw[List.getD,Ac (by omega)];rfl);have ha:=A1.ha;rw[A0.ha]at ha;cases ha;have HX0:=ZQ (HSZ.out _ (FT (l:=its) (i:=0) (by omega)));have hia:=A0.ha;rw[hia]at c2;have HA0:=ZQ A0;have HA1:=ZQ A1;have HR:=ZQ hr;have HC2:=ZQ c2;generalize its.getD 0 t0=tt0 at HA0 HX0 HR;generalize its.getD 1 t0=tt1 at HA1 HR;clear hl2 hia A0 A1 hr;go_upto_region 3 with fail;rename_i KK hkk;refine BZ (S:=λv'=>B1 w.heap.size v' x/\Below w.heap.size w v') (by kernel_rfl) HS0.out (λhS=>?_);have hxia:∀v',B1 w.heap.size v' x->v'.cell? ⟨w.heap.size,2,none⟩=some (.slice (some ⟨g,off,none⟩) 2 x.ic):=λv' hv=>by have:=hv.c2;rwa [HA0.out.ha,h2]at this
  refine Bm 0 9 (.pointer (some ⟨w.heap.size,2,none⟩)) rfl rfl (by kernel_rfl) (by kernel_rfl) (by kernel_rfl) (λ_ _ _ h=>h) (by kernel_rfl) (λv _=>by kernel_rfl) hS<|Bm 1 10 (.slice (some ⟨g,off,none⟩) 2 x.ic) rfl rfl (by kernel_rfl) (by kernel_rfl) (by kernel_rfl) (λ_ _ _ h=>h) (by kernel_rfl) (λv' hv=>Dc rfl (by kernel_rfl) (hxia v' hv.1)) hS<|Bm 2 11 (.pointer (some ⟨g,off+(0+0)*3,none⟩)) rfl rfl (by kernel_rfl) (by kernel_rfl) (by kernel_rfl) (λ_ _ _ h=>h) (by kernel_rfl) (λv' _=>Fi (j:=0+0) (m:=2) (c:=x.ic) rfl (by kernel_rfl) (by kernel_rfl) (by omega)) hS<|Bm 3 12 (.agg #[.bool y0.l, .slice y0.ba y0.bn y0.bc, .slice y0.ia y0.m y0.ic]) rfl rfl (by kernel_rfl) (by kernel_rfl) (by kernel_rfl) (λ_ _ _ h=>h) (by kernel_rfl) (λv' hv=>Ic rfl (by kernel_rfl) (AW hv.2 HA0.out.c0) (AW hv.2 HA0.out.c1) (AW hv.2 HA0.out.c2)) hS<|Bm 4 13 (.pointer (some ⟨w.heap.size,2,none⟩)) rfl rfl (by kernel_rfl) (by kernel_rfl) (by kernel_rfl) (λ_ _ _ h=>h) (by kernel_rfl) (λv _=>by kernel_rfl) hS<|Bm 5 14 (.slice (some ⟨g,off,none⟩) 2 x.ic) rfl rfl (by kernel_rfl) (by kernel_rfl) (by kernel_rfl) (λ_ _ _ h=>h) (by kernel_rfl) (λv' hv=>Dc rfl (by kernel_rfl) (hxia v' hv.1)) hS<|Bm 6 15 (.pointer (some ⟨g,off+(0+1)*3,none⟩)) rfl rfl (by kernel_rfl) (by kernel_rfl) (by kernel_rfl) (λ_ _ _ h=>h) (by kernel_rfl) (λv' _=>Fi (j:=0+1) (m:=2) (c:=x.ic) rfl (by kernel_rfl) (by kernel_rfl) (by omega)) hS<|Bm 7 16 (.agg #[.bool y1.l, .slice y1.ba y1.bn y1.bc, .slice y1.ia y1.m y1.ic]) rfl rfl (by kernel_rfl) (by kernel_rfl) (by kernel_rfl) (λ_ _ _ h=>h) (by kernel_rfl) (λv' hv=>Ic rfl (by kernel_rfl) (AW hv.2 HA1.out.c0) (AW hv.2 HA1.out.c1) (AW hv.2 HA1.out.c2)) hS<|AF (rs:=[8]) (by kernel_rfl) (by simp) ?_;refine E3 8 17 rfl rfl (by kernel_rfl) 148 #[.agg #[.bool y0.l, .slice y0.ba y0.bn y0.bc, .slice y0.ia y0.m y0.ic], .agg #[.bool y1.l, .slice y1.ba y1.bn y1.bc, .slice y1.ia y1.m y1.ic]] (by kernel_rfl) (R:=λval w'=>Below v.drew.heap.size v.drew w'/\∃(y:NV)(b:Bool),y.c.d.length=32/\val= .tuple #[.agg y.cells.toArray, .bool b]/\b=res.isSome/\∀n,res=some n->NodeAt (OwnP (λg=>base<=g/\g≠w.heap.size+1) w') w' y n) (by rw[<-HR.out];exact(Od (λg=>base<=g/\g≠w.heap.size+1) tt0 tt1 y0 y1 v.drew (Ci HPB.out.bel.drew _ _ (Dj _ _ HA0.out.li)) (B6 (λb hb hlt=>⟨HPB.out.bel.drew.block b hlt,hb⟩) _ _ HA1.out.li) HPP.out HX0.out).mono (λe w' h=>K8 h)) (λval w' h=>HSC.out w' h.1) ?_ AB;rintro val w2⟨hb2,y',b,hl',rfl,hbr,hna⟩;have hS2:=HSC.out w2 hb2;have hrow:w2.heap[w.heap.size+1]?=some (.cells nz.cells.toArray 68):=Below.row hb2 HPB.out.row;refine Bm 9 18 (.agg y'.cells.toArray) rfl rfl (by kernel_rfl) (by kernel_rfl) (by kernel_rfl) (λ_ _ _ h=>h) (by kernel_rfl) (λv _=>by kernel_rfl) hS2<|Bm 10 19 (.bool b) rfl rfl (by kernel_rfl) (by kernel_rfl) (by kernel_rfl) (λ_ _ _ h=>h) (by kernel_rfl) (λv _=>by kernel_rfl) hS2<|AF (rs:=[11]) (by kernel_rfl) (by simp) ?_;refine DO 11 rfl rfl (by kernel_rfl) (DG 68 _ _ rfl (w.heap.size+1) y'.cells.toArray (by kernel_rfl) (by kernel_rfl) 68 nz.cells.toArray hrow (CF hl') (Cu hl') (Al (NV.one _))) (HSP.out _ _ hS2) ?_ AB;refine Bm 12 3 (.bool b) rfl rfl (by kernel_rfl) (by kernel_rfl) (by kernel_rfl) (λ_ _ _ h=>h) (by kernel_rfl) (λv _=>by kernel_rfl) (HSP.out _ _ hS2) ?_;refine Ck (by kernel_rfl) ?_ _;refine hkk _ _<|GB results133 (λh=>h) (w.heap.size+1) y' (.bool b) hl' (by kernel_rfl) (by kernel_rfl) (by kernel_rfl) (AE _ _ _ _ _ _ hrow) ?_;exact HEND.out w2 y' b hl' hbr hna hS2
 ·by_cases h17:x.m=17
  ·have hr:=HRES.out;rw[Ae h2,Ai h17]at hr;have hl17:its.length=17:=(by rw[<-HM.out,h17]);rw[h17]at c2 hmc;obtain⟨g,off,y1,A1⟩:=DP HALL.out 16 (its.getD 16 t0) (by rw[List.getD,Ac (by omega)];rfl);have hia:=A1.ha;rw[hia]at c2;have HA1:=ZQ A1;have HR:=ZQ hr;have hta:=JE 16 HLA.out;rw[hia]at hta;have HTA:=ZQ hta;have HTL:=ZQ (show(its.take 16).length=16 from by rw[Am];omega);have H17:=ZQ h17;generalize its.getD 16 t0=tt1 at HA1 HR;generalize its.take 16=tts at HTA HTL HR;clear hl17 hia A1 hr hta h17 h2;go_upto_region 5 with fail;rename_i KK hkk;refine BZ (S:=λv'=>B1 w.heap.size v' x/\Below w.heap.size w v') (by kernel_rfl) HS0.out (λhS=>?_);have hxia:∀v',B1 w.heap.size v' x->v'.cell? ⟨w.heap.size,2,none⟩=some (.slice (some ⟨g,off,none⟩) 17 x.ic):=λv' hv=>by have:=hv.c2;rwa [HA1.out.ha,H17.out]at this
   refine Bm 0 22 (.pointer (some ⟨w.heap.size,2,none⟩)) rfl rfl (by kernel_rfl) (by kernel_rfl) (by kernel_rfl) (λ_ _ _ h=>h) (by kernel_rfl) (λv _=>by kernel_rfl) hS<|Bm 1 23 (.slice (some ⟨g,off,none⟩) 17 x.ic) rfl rfl (by kernel_rfl) (by kernel_rfl) (by kernel_rfl) (λ_ _ _ h=>h) (by kernel_rfl) (λv' hv=>Dc rfl (by kernel_rfl) (hxia v' hv.1)) hS<|Bm 2 24 (.slice (some ⟨g,off,none⟩) 16 x.ic) rfl rfl (by kernel_rfl) (by kernel_rfl) (by kernel_rfl) (λ_ _ _ h=>h) (by kernel_rfl) (λv' _=>Q1 (m:=17) rfl (by kernel_rfl) (by omega) (by omega)) hS<|Bm 3 25 (.pointer (some ⟨w.heap.size,2,none⟩)) rfl rfl (by kernel_rfl) (by kernel_rfl) (by kernel_rfl) (λ_ _ _ h=>h) (by kernel_rfl) (λv _=>by kernel_rfl) hS<|Bm 4 26 (.slice (some ⟨g,off,none⟩) 17 x.ic) rfl rfl (by kernel_rfl) (by kernel_rfl) (by kernel_rfl) (λ_ _ _ h=>h) (by kernel_rfl) (λv' hv=>Dc rfl (by kernel_rfl) (hxia v' hv.1)) hS<|Bm 5 27 (.pointer (some ⟨g,off+(0+16)*3,none⟩)) rfl rfl (by kernel_rfl) (by kernel_rfl) (by kernel_rfl) (λ_ _ _ h=>h) (by kernel_rfl) (λv' _=>Fi (j:=0+16) (m:=17) (c:=x.ic) rfl (by kernel_rfl) (by kernel_rfl) (by omega)) hS<|Bm 6 28 (.agg #[.bool y1.l, .slice y1.ba y1.bn y1.bc, .slice y1.ia y1.m y1.ic]) rfl rfl (by kernel_rfl) (by kernel_rfl) (by kernel_rfl) (λ_ _ _ h=>h) (by kernel_rfl) (λv' hv=>Ic rfl (by kernel_rfl) (AW hv.2 HA1.out.c0) (AW hv.2 HA1.out.c1) (AW hv.2 HA1.out.c2)) hS<|AF (rs:=[7]) (by kernel_rfl) (by simp) ?_;refine E3 7 29 rfl rfl (by kernel_rfl) 149 #[.slice (some ⟨g,off,none⟩) 16 x.ic, .agg #[.bool y1.l, .slice y1.ba y1.bn y1.bc, .slice y1.ia y1.m y1.ic]] (by kernel_rfl) (R:=λval w'=>Below v.drew.heap.size v.drew w'/\∃(y:NV)(b:Bool),y.c.d.length=32/\val= .tuple #[.agg y.cells.toArray, .bool b]/\b=res.isSome/\∀n,res=some n->NodeAt (OwnP (λg=>base<=g/\g≠w.heap.size+1) w') w' y n) (by rw[<-HR.out];exact(LT (λg=>base<=g/\g≠w.heap.size+1) tts (some ⟨g,off,none⟩) x.ic tt1 y1 v.drew HTL.out (JF HPB.out.bel.drew HTA.out) ⟨by omega,by unfold maxLen;omega⟩ (B6 (λb hb hlt=>⟨HPB.out.bel.drew.block b hlt,hb⟩) _ _ HA1.out.li) HPP.out).mono (λe w' h=>K8 h)) (λval w' h=>HSC.out w' h.1) ?_ AB;rintro val w2⟨hb2,y',b,hl',rfl,hbr,hna⟩;have hS2:=HSC.out w2 hb2;have hrow:w2.heap[w.heap.size+1]?=some (.cells nz.cells.toArray 68):=Below.row hb2 HPB.out.row;refine Bm 8 30 (.agg y'.cells.toArray) rfl rfl (by kernel_rfl) (by kernel_rfl) (by kernel_rfl) (λ_ _ _ h=>h) (by kernel_rfl) (λv _=>by kernel_rfl) hS2<|Bm 9 31 (.bool b) rfl rfl (by kernel_rfl) (by kernel_rfl) (by kernel_rfl) (λ_ _ _ h=>h) (by kernel_rfl) (λv _=>by kernel_rfl) hS2<|AF (rs:=[10]) (by kernel_rfl) (by simp) ?_;refine DO 10 rfl rfl (by kernel_rfl) (DG 68 _ _ rfl (w.heap.size+1) y'.cells.toArray (by kernel_rfl) (by kernel_rfl) 68 nz.cells.toArray hrow (CF hl') (Cu hl') (Al (NV.one _))) (HSP.out _ _ hS2) ?_ AB;refine Bm 11 3 (.bool b) rfl rfl (by kernel_rfl) (by kernel_rfl) (by kernel_rfl) (λ_ _ _ h=>h) (by kernel_rfl) (λv _=>by kernel_rfl) (HSP.out _ _ hS2) ?_;refine Ck (by kernel_rfl) ?_ _;refine hkk _ _<|GB results133 (λh=>h) (w.heap.size+1) y' (.bool b) hl' (by kernel_rfl) (by kernel_rfl) (by kernel_rfl) (AE _ _ _ _ _ _ hrow) ?_;exact HEND.out w2 y' b hl' hbr hna hS2
  ·have hr:=HRES.out;rw[Ae h2,Ae h17]at hr;subst hr;have e2:((x.m:Int)==2)=false:=(by rw[Bp];omega);have e17:((x.m:Int)==17)=false:=(by rw[Bp];omega);go_wp2_with (first|refine A7 rfl 68 _ _ rfl _ nz.cells.toArray rfl rfl 68 _ HPB.out.row (CF rfl) (Cu rfl) (Al (NV.one _)) ?_);refine Aq (BW results133 _ _ (w.heap.size+1) nz rfl rfl (AE _ _ _ _ _ _ HPB.out.row)) rfl ?_;exact⟨Below.setRow HPB.out.bel (by omega) _,nz,rfl,rfl⟩
end Go.Proofs.YtefhepcplempkaaGreat
