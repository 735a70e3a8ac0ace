/- A tree under a path. -/
import Derived.Test.YtalhnnjpjaeakaaGreatAK
import Derived.Test.YtalhnnjpjaeakaaGreatG02
import Derived.Test.YtalhnnjpjaeakaaGreatG01
set_option linter.unusedVariables false
set_option maxRecDepth 100000
set_option maxHeartbeats 4000000
open Go.Proofs.Tryz Go.RowKit
namespace Go.Proofs.YtalhnnjpjaeakaaGreat
open Tr
variable {K K' K1 K0 : Nat → Prop} {w w' : World} {a a' aq ax : Option Addr} {n c n' c' nq cq g o g' i cx gq oq m B : Nat} {p x q y r : List Int} {Tu T0 : TypeId} {xu v0 : Value} {k : Nat → Tr} {vs : Nat → Value}
theorem Sk.mono{bs:List Int}(h:Sk K w a n c bs)(hK:∀b,K b->K' b):Sk K' w a n c bs:=⟨h.ag,λx hx hn=>hK _ (h.k x hx hn)⟩
theorem TA.iface{t:Tr}{v:Value}(h:TA K w t v)(hne:t≠no):∃T x,v= .iface T x:=by
 cases t with
 |no=>exact absurd rfl hne
 |leaf p x=>obtain⟨_,_,_,_,_,_,rfl,_⟩:=h;exact⟨_,_,rfl⟩
 |ext p t=>obtain⟨_,_,_,_,rfl,_⟩:=h;exact⟨_,_,rfl⟩
 |br k x=>obtain⟨_,_,_,_,rfl,_⟩:=h;exact⟨_,_,rfl⟩
def US(t:Tr):Prop:=∀{K:Nat->Prop}{w:World}{v:Value}{a:Option Addr}{n c:Nat}{q:List Int}{B:Nat},Ok B t->TA K w t v->Sk K w a n c q->q.length<=64->B<=64->(∀b,w.heap.size<=b->K b)->MC "pergola/trie.under" v #[.slice a n c] w (TRs K w (und q t))
theorem Q1(hp:Sk K w a n c p)(hx:Sk K w a' n' c' x)(hn2:n'<=256)(hq:Sk K w aq nq cq q)(hK:∀b,w.heap.size<=b->K b)(hl1:p.length<=64)(hl2:q.length<=64):
 Calls prog 171 #[.agg #[.slice a n c, .slice a' n' c'], .slice aq nq cq] w λe w'=>∃u,e= .returned u/\TRs K w (und q (leaf p x)) u w':=by
 have hB:=Bl.refl w;refine DB func171 14<|Hn 2 (#[.slice a n c, .slice a' n' c']) 98 ?_;intro w1 g2 hn3 hr4;replace hp:=hp.go hn3.below;have lp:=hp.len;replace hq:=hq.go hn3.below;have lq:=hq.len;refine GL 4 (λv=>Rw g2 v (#[.slice a n c, .slice a' n' c']) 98) (hr4.drew) ?_;replace hr4:=hr4.drew;refine Dl [0,1] 2 (λv hv=>hv) 0 27 (.slice a n c) hr4<|Dl [5] 6 (λv hv=>hv) 1 27 (.slice a' n' c') hr4<|Dz [3] ?_;refine FK 3 #[.slice aq nq cq, .slice a n c] 27 2 (λw' g h=>hr4.go h.below) ?_ yn;intro w5 g6 hn7 hL;refine Dz [4] ?_;replace hp:=hp.drew.go hn7.below;replace hq:=hq.drew.go hn7.below;replace hr4:=hr4.go hn7.below;refine Yc 4 (R:=λu w'=>∃a2 n2 c2,u= .slice a2 n2 c2/\Sk (λb=>(w5).heap.size<=b) w' a2 n2 c2 (q++p)/\Bl (w5) w') ((Dm hq hp hL (by omega) (by omega))) (λu w' h=>hr4.go (by obtain⟨_,_,_,_,_,h⟩:=h;exact h)) ?_ yn;rintro _ u8⟨a3,n3,c3,rfl,hs3,hb9⟩;replace hB:=((hB.go hn3.below).drew).go hn7.below;have hsB:=hB.size;replace hs3:Sk K u8 a3 n3 c3 (q++p):=hs3.mono (λb hb=>hK b (Al hsB hb));replace hr4:=hr4.go hb9;refine Dx [] 7 (og f171 1 7) (.agg #[.slice a3 n3 c3, .slice a' n' c']) (λv hv=>(λ_=>by kernel_rfl)) hr4<|Dq [8,9] hr4 ?_;replace hx:=(((hx.go hn3.below).drew).go hn7.below).go hb9;replace hB:=hB.go hb9;exact Hr 2 (.iface 98 (.agg #[.slice a3 n3 c3, .slice a' n' c'])) ⟨_,rfl,⟨_,_,_,_,_,_,rfl,hs3,hx,hn2⟩,hB⟩
theorem Q2{t:Tr}(hp:Sk K w a n c p)(ht:TA K w t (.iface Tu xu))(hq:Sk K w aq nq cq q)(hK:∀b,w.heap.size<=b->K b)(hl1:p.length<=64)(hl2:q.length<=64):
 Calls prog 191 #[.agg #[.slice a n c, .iface Tu xu], .slice aq nq cq] w λe w'=>∃u,e= .returned u/\TRs K w (und q (ext p t)) u w':=by
 have hB:=Bl.refl w;refine DB func191 14<|Hn 2 (#[.slice a n c, .iface Tu xu]) 220 ?_;intro w1 g2 hn3 hr4;replace hp:=hp.go hn3.below;have lp:=hp.len;replace hq:=hq.go hn3.below;have lq:=hq.len;refine GL 4 (λv=>Rw g2 v (#[.slice a n c, .iface Tu xu]) 220) (hr4.drew) ?_;replace hr4:=hr4.drew;refine Dl [0,1] 2 (λv hv=>hv) 0 27 (.slice a n c) hr4<|Dl [5] 6 (λv hv=>hv) 1 65 (.iface Tu xu) hr4<|Dz [3] ?_;refine FK 3 #[.slice aq nq cq, .slice a n c] 27 2 (λw' g h=>hr4.go h.below) ?_ yn;intro w5 g6 hn7 hL;refine Dz [4] ?_;replace hp:=hp.drew.go hn7.below;replace hq:=hq.drew.go hn7.below;replace hr4:=hr4.go hn7.below;refine Yc 4 (R:=λu w'=>∃a2 n2 c2,u= .slice a2 n2 c2/\Sk (λb=>(w5).heap.size<=b) w' a2 n2 c2 (q++p)/\Bl (w5) w') ((Dm hq hp hL (by omega) (by omega))) (λu w' h=>hr4.go (by obtain⟨_,_,_,_,_,h⟩:=h;exact h)) ?_ yn;rintro _ u8⟨a3,n3,c3,rfl,hs3,hb9⟩;replace hB:=((hB.go hn3.below).drew).go hn7.below;have hsB:=hB.size;replace hs3:Sk K u8 a3 n3 c3 (q++p):=hs3.mono (λb hb=>hK b (Al hsB hb));replace hr4:=hr4.go hb9;refine Dx [] 7 (og f191 1 7) (.agg #[.slice a3 n3 c3, .iface Tu xu]) (λv hv=>(λ_=>by kernel_rfl)) hr4<|Dq [8,9] hr4 ?_;replace ht:=(((ht.go hn3.below).drew).go hn7.below).go hb9;replace hB:=hB.go hb9;exact Hr 2 (.iface 220 (.agg #[.slice a3 n3 c3, .iface Tu xu])) ⟨_,rfl,⟨_,_,_,_,rfl,hs3,ht⟩,hB⟩
theorem Vh(hk:TK K w k vs)(hx:Sk K w a n c x)(hn2:n<=256)(hq:Sk K w aq nq cq q)(hnq:nq=0):
 Calls prog 184 #[.agg (brc vs (.slice a n c)), .slice aq nq cq] w λe w'=>∃u,e= .returned u/\TRs K w (und q (br k x)) u w':=by
 have hB:=Bl.refl w;refine DB func184 15<|Hn 2 (brc vs (.slice a n c)) 215 ?_;intro w1 g2 hn3 hr4;refine Hq 8 (nq:Int) (0:Int)<|Hx 5 (og f184 2 0) (.agg (brc vs (.slice a n c))) (λ_=>Ep 215 _ _ _ _ _ _ rfl (by kernel_rfl) hr4 underlying215 rfl (by kernel_rfl)) ?_;replace hB:=hB.go hn3.below;replace hx:=hx.go hn3.below;replace hq:=hq.go hn3.below;replace hk:=hk.go hn3.below;exact Hr 6 (.iface 215 (.agg (brc vs (.slice a n c)))) ⟨_,rfl,(by have e:q=[]:=Ar (by have:=hq.len;omega);subst e;exact⟨vs,_,_,_,rfl,hk,hx,hn2⟩),hB⟩
theorem Vi(hk:TK K w k vs)(hx:Sk K w a n c x)(hn2:n<=256)(hq:Sk K w aq nq cq q)(hnq:0<nq):
 Calls prog 184 #[.agg (brc vs (.slice a n c)), .slice aq nq cq] w λe w'=>∃u,e= .returned u/\TRs K w (und q (br k x)) u w':=by
 have hB:=Bl.refl w;refine DB func184 15<|Hn 2 (brc vs (.slice a n c)) 215 ?_;intro w1 g2 hn3 hr4;refine Hz 8 (nq:Int) (0:Int)<|Hx 8 (og f184 3 1) (.agg (brc vs (.slice a n c))) (λ_=>Ep 215 _ _ _ _ _ _ rfl (by kernel_rfl) hr4 underlying215 rfl (by kernel_rfl)) ?_;replace hq:=hq.go hn3.below;have e:q≠[]:=by intro e;have:=hq.len;rw[e,Ch]at this;omega
 replace hB:=hB.go hn3.below;replace hx:=hx.go hn3.below;replace hk:=hk.go hn3.below;exact Hr 7 (.iface 220 (.agg #[.slice aq nq cq, .iface 215 (.agg (brc vs (.slice a n c)))])) ⟨_,rfl,(by simp only[und];rw[Ad e];exact⟨_,_,_,_,rfl,hq,vs,_,_,_,rfl,hk,hx,hn2⟩),hB⟩
theorem Vj{v:Value}(ht:TA K w (br k x) v)(hq:Sk K w a n c q):MC "pergola/trie.under" v #[.slice a n c] w (TRs K w (und q (br k x))):=by
 obtain⟨vs,a1,n1,c1,rfl,h1,h2,h3⟩:=ht;refine⟨_,_,_,rfl,Qu _,?_⟩;rcases EG n with h|h
 ·exact Vh h1 h2 h3 hq h
 ·exact Vi h1 h2 h3 hq h
theorem Q3(t:Tr):US t:=by
 cases t with
 |no=>intro K w v a n c q B hO;exact hO.elim
 |leaf p x=>
  intro K w v a n c q B hO ht hq hl hB hK;obtain⟨a1,n1,c1,a2,n2,c2,rfl,h1,h2,h3⟩:=ht;exact⟨_,_,_,rfl,Qr _,Q1 h1 h2 h3 hq hK (Al hO.2.1 hB) hl⟩
 |ext p t=>
  intro K w v a n c q B hO ht hq hl hB hK;obtain⟨a1,n1,c1,u,rfl,h1,h2⟩:=ht;obtain⟨Tu,xu,rfl⟩:=h2.iface (λe=>by rw[e]at hO;exact absurd hO.2.2.2.1 (by simp[isBr]));exact⟨_,_,_,rfl,Qt _,Q2 h1 h2 hq hK (Al hO.2.2.1 hB) hl⟩
 |br k x=>
  intro K w v a n c q B hO ht hq hl hB hK;exact Vj ht hq
def NoInt(cells:Array Value):Prop:=∀(j:Nat)(v:Value),cells[j]?=some v->∀kd z,v≠ .int kd z
structure Bs(w w':World)(g:Nat):Prop where
 other:∀k,k≠g->w'.heap[k]?=w.heap[k]?
 no:∀o kd z,w.cell? ⟨g,o,none⟩≠some (.int kd z)
theorem Bs.of{cells:Array Value}{T:TypeId}{v:Value}(h:Rw g w cells T)(hn:NoInt cells)(hs:Set1 w w' g o v):Bs w w' g:=
 ⟨λk hk=>hs.other hk,λo kd z e=>by rw[Ae _ _ _ _ _ _ h]at e;exact hn _ _ e kd z rfl⟩
theorem Sk.bs{bs:List Int}(h:Sk K w a n c bs)(hb:Bs w w' g):Sk K w' a n c bs:=by
 refine⟨⟨?_,h.ag.nil,h.ag.l,h.ag.b⟩,h.k⟩;rcases h.ag.i with h1|⟨gb,off,h1,h2,h3,h4,h5,h7⟩
 ·exact .inl h1
 ·refine .inr ⟨gb,off,h1,h2,h3,h4,h5,λj hj=>?_⟩;have hne:gb≠g:=λe=>by
   subst e;exact hb.no _ _ _ (h7 j hj)
  rw[<-h7 j hj];exact Aq (hb.other gb hne)
theorem TA.bs(hb:Bs w w' g):∀{t:Tr}{v:Value},TA K w t v->TA K w' t v:=by
 intro t
 induction t with
 |no=>intro v h;exact h
 |leaf p x=>rintro v⟨a,n,c,a',n',c',h1,h2,h3,h4⟩;exact⟨a,n,c,a',n',c',h1,h2.bs hb,h3.bs hb,h4⟩
 |ext p t ih=>rintro v⟨a,n,c,u,h1,h2,h3⟩;exact⟨a,n,c,u,h1,h2.bs hb,ih h3⟩
 |br k x ih=>rintro v⟨vs,a,n,c,h1,h2,h3,h4⟩;exact⟨vs,a,n,c,h1,λi hi=>ih i (h2 i hi),h3.bs hb,h4⟩
theorem TK.bs(h:TK K w k vs)(hb:Bs w w' g):TK K w' k vs:=λi hi=>(h i hi).bs hb
theorem Bl.set{w0:World}{v:Value}(h:Bl w0 w)(hs:Set1 w w' g o v)(hg:w0.heap.size<=g):Bl w0 w':=hs.touch.below h hg h.size
theorem Rw.set{cells cells':Array Value}{T:TypeId}{v:Value}(h:Rw g w cells T)(hs:Set1 w w' g o v)(e:cells.setIfInBounds o v=cells'):Rw g w' cells' T:=by
 rw[<-e,Rw,hs.hw];exact AN _ _ _ _ _ _ h
theorem Rw.apart{cells:Array Value}{T:TypeId}{v:Value}(h:Rw g w cells T)(hs:Set1 w w' g' o v)(e:g≠g'):Rw g w' cells T:=(hs.other e).trans h
theorem TA.noint{t:Tr}{v:Value}(h:TA K w t v)(kd:IntKind)(z:Int):v≠ .int kd z:=by
 cases t with
 |no=>rw[show v= .nilIface from h];simp
 |leaf p x=>obtain⟨_,_,_,_,_,_,rfl,_⟩:=h;simp
 |ext p t=>obtain⟨_,_,_,_,rfl,_⟩:=h;simp
 |br k x=>obtain⟨_,_,_,_,rfl,_⟩:=h;simp
theorem TK.noint(h:TK K w k vs)(a:Option Addr)(n c:Nat):NoInt (brc vs (.slice a n c)):=by
 intro j v hj kd z;by_cases h16:j<16
 ·rw[H9 _ _ _ h16]at hj;cases hj;exact(h j h16).noint kd z
 ·have hl:j<(brc vs (.slice a n c)).size:=(BF.1 hj).1;have hl:j<17:=hl;obtain rfl:j=16:=by omega
  rw[show(brc vs (.slice a n c))[16]?=some (.slice a n c)from rfl]at hj;cases hj;simp
theorem TK.put(h:TK K w k vs){t:Tr}{v:Value}(ht:TA K w t v):TK K w (upd k i t) (updv vs i v):=λj hj=>by
 unfold Tr.upd updv;by_cases e:j=i
 ·rw[Af e,Af e];exact ht
 ·rw[Ad e,Ad e];exact h j hj
theorem TK.none(K:Nat->Prop)(w:World):TK K w nk (λ_=> .nilIface):=λ_ _=>rfl
theorem BO{ρ:Operand->Value}{w:World}{o:Oper}(T:TypeId)(x y:Operand)(g j:Nat)(cells:Array Value)(E:TypeId)(v:Value)(h:Rw g w cells E)(ho:o.op= .store T x y)(hx:ρ x= .pointer (some ⟨g,j,none⟩))(hy:ρ y=v)(hj:j<cells.size)(h1:v.cells=#[v])(h2:v.oneCell'=true)(hi:(prog.info? T).map (·.size)=some 1):
 (execOp ρ o).run prog w= .ok .skip (w.setCell ⟨g,j,none⟩ v):=by
 have hc:w.cell? ⟨g,j,none⟩=some cells[j]:=by rw[Ae _ _ _ _ _ _ h];exact CG hj
 have hf:w.frozen? ⟨g,j,none⟩=false:=AL _ _ _ _ _ h;have hs:(sizeOf T).run prog w= .ok 1 w:=by
  cases hq:prog.info? T with
  |none=>simp[hq]at hi
  |some z=>simp[hq]at hi;simp[sizeOf,typeInfo,hq,hi]
 unfold execOp;rw[ho];simp only[hx,hy,Instr.storeAt,Instr.sureAddr,storeVar,h1,Bm,Bp,AH,hs];go_simp;rw[run_store _ _ _ _ _ h2];simp[hc,hf]
theorem TA.cells{t:Tr}{v:Value}(h:TA K w t v):v.cells=#[v]:=by
 cases t with
 |no=>rw[show v= .nilIface from h];rfl
 |leaf p x=>obtain⟨_,_,_,_,_,_,rfl,_⟩:=h;rfl
 |ext p t=>obtain⟨_,_,_,_,rfl,_⟩:=h;rfl
 |br k x=>obtain⟨_,_,_,_,rfl,_⟩:=h;rfl
def WS(t:Tr):Prop:=∀{K:Nat->Prop}{w:World}{v:Value}{a:Option Addr}{n c:Nat}{q:List Int}{a':Option Addr}{n' c':Nat}{x:List Int}{B:Nat},Ok B t->B<=64->q.length<=B->Nb q->TA K w t v->Sk K w a n c q->Sk K w a' n' c' x->n'<=256->(∀b,w.heap.size<=b->K b)->MC "pergola/trie.with" v #[.slice a n c, .slice a' n' c'] w (TRs K w (put t q x))
theorem Zp(hq:Sk K w aq nq cq q){nx:Nat}(hx:Sk K w ax nx cx x)(hx2:nx<=256):
 Calls prog 30 #[.nilIface, .slice aq nq cq, .slice ax nx cx] w λe w'=>∃u,e= .returned u/\TRs K w (put no q x) u w':=by
 have hB:=Bl.refl w;refine DB func30 17 ?_;exact Hr 24 (.iface 98 (.agg #[.slice aq nq cq, .slice ax nx cx])) ⟨_,rfl,⟨_,_,_,_,_,_,rfl,hq,hx,hx2⟩,hB⟩
theorem XA{nx:Nat}{t:Tr}(hm:MC "pergola/trie.with" (.iface T0 v0) #[.slice aq nq cq, .slice ax nx cx] w (TRs K w t)):
 Calls prog 30 #[.iface T0 v0, .slice aq nq cq, .slice ax nx cx] w λe w'=>∃u,e= .returned u/\TRs K w t u w':=by
 have hB:=Bl.refl w;refine DB func30 17 ?_;obtain⟨T3,x4,f5,he6,hi1,hc2⟩:=hm;refine Hm 20 (og f30 3 3) f5 (#[x4]++#[.slice aq nq cq, .slice ax nx cx]) (λ_=>hi1 _ _ _ _ _ _ _ rfl (by kernel_rfl) (by kernel_rfl)) (R:=TRs K w t) ?_ ?_
 ·exact hc2
 rintro vR u1⟨ht,hb⟩;replace hB:=hB.go hb;exact Hr 4 vR ⟨_,rfl,ht,hB⟩
theorem FW{t:Tr}{v:Value}(hF:t=no∨∃B,Ok B t/\B<=64/\q.length<=B/\WS t)(ht:TA K w t v)(hq:Sk K w aq nq cq q)(hnb:Nb q){nx:Nat}(hx:Sk K w ax nx cx x)(hx2:nx<=256)(hK:∀b,w.heap.size<=b->K b):
 Calls prog 30 #[v, .slice aq nq cq, .slice ax nx cx] w λe w'=>∃u,e= .returned u/\TRs K w (put t q x) u w':=by
 rcases hF with rfl|⟨B,hO,h64,hl,hF⟩
 ·rw[show v= .nilIface from ht];exact Zp hq hx hx2
 ·have hm:=hF hO h64 hl hnb ht hq hx hx2 hK;obtain⟨T,y,f,rfl,_⟩:=id hm;exact XA hm
theorem Tx(hk:TK K w k vs)(hy:Sk K w a n c y)(hn2:n<=256){nx:Nat}(hx:Sk K w ax nx cx x)(hx2:nx<=256)(hK:∀b,w.heap.size<=b->K b)(hq:Sk K w aq nq cq q)(hnq:nq=0):
 Calls prog 176 #[.agg (brc vs (.slice a n c)), .slice aq nq cq, .slice ax nx cx] w λe w'=>∃u,e= .returned u/\TRs K w (put (br k y) q x) u w':=by
 have hB:=Bl.refl w;refine DB func176 31<|Hn 2 (brc vs (.slice a n c)) 215 ?_;intro w1 g2 hn3 hr4;have hgs:=hn3.hg;refine Hq 8 (nq:Int) (0:Int)<|Ha 7 (og f176 2 2) g2 16 (.slice ax nx cx) (λ_=>BO 27 _ _ g2 16 _ 215 _ hr4 rfl (by kernel_rfl) (by kernel_rfl) (by show 16<17;omega) rfl rfl (by kernel_rfl)) ?_;intro w5 hp6;replace hk:=hk.go hn3.below;have hbs:Bs w1 w5 g2:=Bs.of hr4 (hk.noint _ _ _) hp6;replace hr4:Rw g2 w5 (brc vs (.slice ax nx cx)) 215:=hr4.set hp6 (rfl);refine Hx 4 (og f176 3 0) (.agg (brc vs (.slice ax nx cx))) (λ_=>Ep 215 _ _ _ _ _ _ rfl (by kernel_rfl) hr4 underlying215 rfl (by kernel_rfl)) ?_;replace hB:=(hB.go hn3.below).set hp6 (by omega);replace hx:=(hx.go hn3.below).bs hbs;replace hq:=(hq.go hn3.below).bs hbs;replace hk:=hk.bs hbs;exact Hr 6 (.iface 215 (.agg (brc vs (.slice ax nx cx)))) ⟨_,rfl,(by have e:q=[]:=Ar (by have:=hq.len;omega);subst e;exact⟨vs,_,_,_,rfl,hk,hx,hx2⟩),hB⟩
theorem Q4(hk:TK K w k vs)(hy:Sk K w a n c y)(hn2:n<=256){nx:Nat}(hx:Sk K w ax nx cx x)(hx2:nx<=256)(hK:∀b,w.heap.size<=b->K b)(hi:i<16)(hq:Sk K w (some ⟨gq,oq,none⟩) nq cq ((i:Int)::r))(hnq:0<nq)(hc0:w.cell? ⟨gq,oq+0*1,none⟩=some (.int .u8 (i:Int)))(hF:k i=no∨∃B,Ok B (k i)/\B<=64/\r.length<=B/\WS (k i))(hnb:Nb r):
 Calls prog 176 #[.agg (brc vs (.slice a n c)), .slice (some ⟨gq,oq,none⟩) nq cq, .slice ax nx cx] w λe w'=>∃u,e= .returned u/\TRs K w (br (upd k i (put (k i) r x)) y) u w':=by
 have hB:=Bl.refl w;refine DB func176 31<|Hn 2 (brc vs (.slice a n c)) 215 ?_;intro w1 g2 hn3 hr4;have hgs:=hn3.hg;refine Hz 8 (nq:Int) (0:Int)<|Hx 8 (og f176 4 1) (.pointer (some ⟨gq,oq+0*1,none⟩)) (λ_=>AX 27 _ _ gq oq 0 nq cq 1 5 rfl (by kernel_rfl) (by kernel_rfl) (by omega) underlying27 (by kernel_rfl)) ?_;replace hB:=hB.go hn3.below;refine Hx 0 (og f176 4 2) (.int .u8 (i:Int)) (λ_=>AF 5 _ ⟨gq,oq+0*1,none⟩ _ _ rfl (by kernel_rfl) ((hB.cell (p:=⟨gq,oq+0*1,none⟩) (Aj hc0)).trans hc0) underlying5 rfl)<|GL 4 (λ_=>True) (trivial)<|Dx [0,1,2] 3 (og f176 5 3) (.pointer (some ⟨g2,0+i*1,none⟩)) (λv hv _=>EV (kd:= .u8) 213 _ _ g2 0 i 16 1 65 rfl (by kernel_rfl) (by kernel_rfl) hi (by omega) underlying213 (by kernel_rfl)) trivial ?_;replace hq:=(hq.go hn3.below).drew;obtain⟨a5,n6,c7,hr8,hs9⟩:=hq.cutFrom 1 (by have:=hq.len;omega);refine Dx [5] 6 (og f176 5 6) (.slice a5 n6 c7) (λv hv=>(λ_=>hr8 _ _ _ _ _ _ rfl (by kernel_rfl) (by kernel_rfl) rfl)) trivial<|Dy [7,9] [4] trivial ?_;replace hr4:=hr4.drew;refine Yx 4 (og f176 5 4) (vs i) (λ_=>AF 65 _ ⟨g2,0+i*1,none⟩ _ _ rfl (by kernel_rfl) (by rw[AD,Cl,Ae _ _ _ _ _ _ hr4,H9 _ _ _ hi]) underlying65 rfl) trivial ?_ yn;refine Dz [8] ?_;replace hx:=(hx.go hn3.below).drew;replace hk:=(hk.go hn3.below).drew;replace hB:=hB.drew;refine Yc 8 (R:=TRs K (w1.drew) (put (k i) r x)) ((FW hF (hk i hi) hs9 hnb hx hx2 (λb hb=>hK b (Al hB.size hb)))) (λu w' h=>trivial) ?_ yn;rintro vR u10⟨ht,hb11⟩;refine Dx [] 10 (og f176 5 10) (.pointer (some ⟨g2,0+i*1,none⟩)) (λv hv _=>EV (kd:= .u8) 213 _ _ g2 0 i 16 1 65 rfl (by kernel_rfl) (by kernel_rfl) hi (by omega) underlying213 (by kernel_rfl)) trivial<|Dz [11] ?_;replace hr4:=hr4.go hb11;refine Ya 11 (og f176 5 11) g2 (0+i*1) vR (λ_=>BO 65 _ _ g2 (0+i*1) _ 215 _ hr4 rfl (by kernel_rfl) (by kernel_rfl) (by show 0+i*1<17;omega) ht.cells ht.one (by kernel_rfl)) (λw' h=>trivial) ?_ yn;intro w12 hp13;replace hk:=hk.go hb11;have hbs:Bs u10 w12 g2:=Bs.of hr4 (hk.noint _ _ _) hp13;replace hr4:Rw g2 w12 (brc (updv vs i vR) (.slice a n c)) 215:=hr4.set hp13 (by rw[AD,Cl];exact NL _ _ _ _ hi);refine Do<|Hx 3 (og f176 6 0) (.agg (brc (updv vs i vR) (.slice a n c))) (λ_=>Ep 215 _ _ _ _ _ _ rfl (by kernel_rfl) hr4 underlying215 rfl (by kernel_rfl)) ?_;replace hy:=(((hy.go hn3.below).drew).go hb11).bs hbs;replace hB:=(hB.go hb11).set hp13 (by omega);replace hk:=hk.bs hbs;replace ht:=ht.bs hbs;exact Hr 5 (.iface 215 (.agg (brc (updv vs i vR) (.slice a n c)))) ⟨_,rfl,⟨updv vs i vR,_,_,_,rfl,hk.put ht,hy,hn2⟩,hB⟩
theorem Ic(hk:TK K w k vs)(hy:Sk K w a n c y)(hn2:n<=256){nx:Nat}(hx:Sk K w ax nx cx x)(hx2:nx<=256)(hK:∀b,w.heap.size<=b->K b)(hq:Sk K w aq nq cq q)(hnb:Nb q)
 (hF:∀(i:Nat)(r:List Int),q=(i:Int)::r->k i=no∨∃B,Ok B (k i)/\B<=64/\r.length<=B/\WS (k i)):
 Calls prog 176 #[.agg (brc vs (.slice a n c)), .slice aq nq cq, .slice ax nx cx] w λe w'=>∃u,e= .returned u/\TRs K w (put (br k y) q x) u w':=by
 cases q with
 |nil=>exact Tx hk hy hn2 hx hx2 hK hq hq.len.symm
 |cons i r=>
  obtain⟨g,o,rfl,hc,hn⟩:=hq.head;have hi:=hnb.head;obtain⟨j,rfl⟩:=Dj hi.1;exact Q4 hk hy hn2 hx hx2 hK (by omega) hq hn hc (hF j r rfl) hnb.tail
theorem NS(k:Nat->Tr)(y q v:List Int)(h:∀i r,q=i::r->k i.toNat=no):put (br k y) q v=add k y q v:=by
 cases q with
 |nil=>rfl
 |cons i r=>simp only[put,add,h i r rfl]
theorem Vl(k:Nat->Tr)(y q v:List Int):∃k' y',put (br k y) q v=br k' y':=by
 cases q with
 |nil=>exact⟨_,_,rfl⟩
 |cons i r=>exact⟨_,_,rfl⟩
theorem Vm(p:List Int){t:Tr}(h:t≠no):und p t≠no:=by
 cases t with
 |no=>exact absurd rfl h
 |leaf q v=>simp[und]
 |ext q c=>simp[und]
 |br k v=>simp only[und];split<;>simp
theorem Zq(t:Tr)(q v:List Int):put t q v≠no:=by
 cases t with
 |no=>simp[put]
 |leaf p x=>
  simp only[put];split
  ·simp
  ·refine Vm _ ?_;cases p.drop (Ni.com p q)<;>cases q.drop (Ni.com p q)<;>simp[addT,add]
 |ext p c=>
  simp only[put];split
  ·simp
  ·refine Vm _ ?_;cases q.drop (Ni.com p q)<;>simp[add]
 |br k x=>cases q<;>simp[put]
theorem Vn{v:List Int}(hne:q≠p)(hp:Nb p)(hq:Nb q):∃k1 y1,put (br nk []) (p.drop (Ni.com p q)) x=br k1 y1/\(∀(i:Nat)(r:List Int),q.drop (Ni.com p q)=(i:Int)::r->k1 i=no)/\
 put (leaf p x) q v=und (q.take (Ni.com p q)) (put (br k1 y1) (q.drop (Ni.com p q)) v):=by
 obtain⟨Q,a,b,ep,eq,ec,hd⟩:=Gj p q;have ea:p.drop (Ni.com p q)=a:=by
  rw[ec]
  conv=>lhs;rw[ep];simp
 have eb:q.drop (Ni.com p q)=b:=by
  rw[ec]
  conv=>lhs;rw[eq];simp
 have hb:Nb b:=by rw[<-eb];exact hq.drop _
 have ha:Nb a:=by rw[<-ea];exact hp.drop _
 simp only[put];rw[Ad hne,ea,eb];cases a with
 |nil=>
  refine⟨nk,x,rfl,λ_ _ _=>rfl,?_⟩;simp only[add,addT];rw[NS nk x b v (λ_ _ _=>rfl)];rfl
 |cons i a'=>
  have hfree:∀(j:Int)(r:List Int),b=j::r->upd nk i.toNat (leaf a' x) j.toNat=no:=by
   intro j r e;rcases hd with h|h|⟨i1,a1,j1,b1,e1,e2,hij⟩
   ·cases h
   ·rw[h]at e;cases e
   ·cases e1;rw[e]at e2;cases e2;rw[BZ]
    ·rfl
    ·intro h;have h1:=ha.head;rw[e]at hb;have h2:=hb.head;exact hij (by omega)
  refine⟨upd nk i.toNat (leaf a' x),[],rfl,λj r e=>hfree _ r e,?_⟩;simp only[add,addT];rw[NS _ _ b v hfree];rfl
theorem XB{v:List Int}{c:Tr}(hlt:Ni.com p q<p.length)(hq:Nb q)(i:Nat)(hi:p.getD (Ni.com p q) 0=(i:Int)):
 (∀(j:Nat)(r:List Int),q.drop (Ni.com p q)=(j:Int)::r->upd nk i (und (p.drop (Ni.com p q+1)) c) j=no)/\
 put (ext p c) q v=und (q.take (Ni.com p q)) (put (br (upd nk i (und (p.drop (Ni.com p q+1)) c)) []) (q.drop (Ni.com p q)) v):=by
 have hfree:∀(j:Int)(r:List Int),q.drop (Ni.com p q)=j::r->upd nk i (und (p.drop (Ni.com p q+1)) c) j.toNat=no:=by
  intro j r e;have hl:Ni.com p q<q.length:=by
   have:=Av List.length e;rw[AQ,AP]at this;omega
  have hs:=Ni.com_stop p q hlt hl;have hj:q.getD (Ni.com p q) 0=j:=by
   rw[Bq hl]at e;injection e with e1 e2;rw[<-e1];simp[List.getD,Ac hl]
  rw[hi,hj]at hs;have hb:Nb (q.drop (Ni.com p q)):=hq.drop _;rw[e]at hb;have h2:=hb.head;rw[BZ]
  ·rfl
  ·intro h;exact hs (by omega)
 refine⟨λj r e=>hfree _ r e,?_⟩;simp only[put];rw[Ad (by omega),hi,NS _ _ _ _ hfree];rfl
theorem Sx.apart{cells:Array Value}{T:TypeId}{p:Addr}{x v:Value}(h:Sx g cells T p x w)(hs:Set1 w w' g' o v)(h1:g≠g')(h2:p.block≠g'):Sx g cells T p x w':=
 ⟨h.r.apart hs h1,(Aq (hs.other h2)).trans h.c⟩
theorem Sk.nth{bs:List Int}(h:Sk K w a n c bs)(hm:m<n):∃g o,a=some ⟨g,o,none⟩/\w.cell? ⟨g,o+m*1,none⟩=some (.int .u8 (bs.getD m 0)):=by
 have hl:=h.len;rcases h.ag.i with⟨h1,h2⟩|⟨gb,off,h1,h2,h3,h4,h5,h7⟩
 ·omega
 ·exact⟨gb,off,h1,by rw[Cl];exact h7 m (by omega)⟩
theorem Ty{x0:List Int}(hp:Sk K w a n c p)(h0:Sk K w a' n' c' x0)(h02:n'<=256)(hq:Sk K w aq nq cq q){nx:Nat}(hx:Sk K w ax nx cx x)(hx2:nx<=256)(hK:∀b,w.heap.size<=b->K b)(hnp:Nb p)(hnb:Nb q)(hl1:p.length<=64)(hl2:q.length<=64):
 Calls prog 172 #[.agg #[.slice a n c, .slice a' n' c'], .slice aq nq cq, .slice ax nx cx] w λe w'=>∃u,e= .returned u/\TRs K w (put (leaf p x0) q x) u w':=by
 have hB:=Bl.refl w;have lp:=hp.len;have lq:=hq.len;refine DB func172 43<|Hn 2 (#[.slice a n c, .slice a' n' c']) 98 ?_;intro w1 g2 hn3 hr4;refine Hl 8 hr4 0 27 (.slice a n c) ?_;replace hp:=hp.go hn3.below;replace hq:=hq.go hn3.below;refine Hc 0 (R:=λu w'=>u= .bool (decide (q=p))/\Bl (w1) w') ((Gk hq hp)) ?_;rintro _ u5⟨rfl,hb6⟩;by_cases hqp:q=p
 ·skip
  rw[show decide (q=p)=true from AU hqp];replace hB:=(hB.go hn3.below).go hb6;replace hx:=(hx.go hn3.below).go hb6;replace hq:=hq.go hb6;exact Hr 14 (.iface 98 (.agg #[.slice aq nq cq, .slice ax nx cx])) ⟨_,rfl,(by simp only[put];rw[Af hqp];exact⟨_,_,_,_,_,_,rfl,hq,hx,hx2⟩),hB⟩
 ·skip
  rw[show decide (q=p)=false from AT hqp];obtain⟨k1,y1,e1,hfree,e3⟩:=Vn (x:=x0) (v:=x) hqp hnp hnb;obtain⟨k2,y2,e2⟩:=Vl k1 y1 (q.drop (Ni.com p q)) x;have hm12:=Ni.com_le p q;obtain⟨m,hm⟩:∃m,Ni.com p q=m:=⟨_,rfl⟩;rw[hm]at e1 hfree e3 e2 hm12;obtain⟨hm1,hm2⟩:=hm12;replace hr4:=hr4.go hb6;refine Hl 8 hr4 0 27 (.slice a n c) ?_;replace hp:=hp.go hb6;replace hq:=hq.go hb6;refine Hc 1 (R:=λu w'=>u= .int .i64 (m:Int)/\Bl (u5) w') (((Ni.common_any _ _ _ _ _ _ p q _ hp.ag hq.ag (by omega) (by omega)).mono (λe w' h=>⟨_,by rw[h.1,hm],rfl,h.2⟩))) ?_;rintro _ u7⟨rfl,hb8⟩;replace hr4:=hr4.go hb8;refine GL 4 (λv=>Rw g2 v (#[.slice a n c, .slice a' n' c']) 98) (hr4.drew) ?_;replace hr4:=hr4.drew;refine Dx [] 0 (og f172 4 0) (.agg (brc (λ_=> .nilIface) (.slice none 0 0))) (λv hv=>(λ_=>by kernel_rfl)) hr4<|Dl [1] 2 (λv hv=>hv) 0 27 (.slice a n c) hr4 ?_;replace hp:=(hp.go hb8).drew;obtain⟨a9,n10,c11,hr12,hs13⟩:=hp.cutFrom m (by have:=hp.len;omega);refine Dx [3] 4 (og f172 4 4) (.slice a9 n10 c11) (λv hv=>(λ_=>hr12 _ _ _ _ _ _ rfl (by kernel_rfl) (by kernel_rfl) rfl)) hr4<|Dl [5] 6 (λv hv=>hv) 1 27 (.slice a' n' c') hr4 ?_;replace hq:=(hq.go hb8).drew;obtain⟨a14,n15,c16,hr17,hs18⟩:=hq.cutFrom m (by have:=hq.len;omega);refine Dx [8,9] 10 (og f172 4 10) (.slice a14 n15 c16) (λv hv=>(λ_=>hr17 _ _ _ _ _ _ rfl (by kernel_rfl) (by kernel_rfl) rfl)) hr4 ?_;obtain⟨a19,n20,c21,hr22,hs23⟩:=hq.cutTo m (by have:=hq.len;omega);refine Dx [11,16,17] 18 (og f172 4 18) (.slice a19 n20 c21) (λv hv=>(λ_=>hr22 _ _ _ _ _ _ rfl (by kernel_rfl) (by kernel_rfl) rfl)) hr4<|Dz [7] ?_;replace hB:=(((hB.go hn3.below).go hb6).go hb8).drew;replace h0:=(((h0.go hn3.below).go hb6).go hb8).drew;refine Yc 7 (R:=TRs K (u7.drew) (br k1 y1)) ((by rw[<-e1];exact Ic (TK.none K _) (Sk.nil K _) (by omega) h0 h02 (λb hb=>hK b (Al hB.size hb)) hs13 (hnp.drop _) (λi r e=> .inl rfl))) (λu w' h=>hr4.go h.2) ?_ yn;rintro _ u24⟨⟨vs1,a1,n1,c1,rfl,hk1,hy1,hn1⟩,hb25⟩;replace hk1:TK K u24 k1 vs1:=hk1;replace hr4:=hr4.go hb25;refine Dx [] 12 (og f172 4 12) (.func (.method "pergola/trie.with") #[.iface 215 (.agg (brc vs1 (.slice a1 n1 c1)))] #[]) (λv hv=>(λ_=>by kernel_rfl)) hr4<|Dx [] 13 (og f172 4 13) (.func (.method "pergola/trie.with") #[.iface 215 (.agg (brc vs1 (.slice a1 n1 c1)))] #[]) (λv hv=>(λ_=>by kernel_rfl)) hr4<|Dy [14] [15] hr4 ?_;replace hx:=((((hx.go hn3.below).go hb6).go hb8).drew).go hb25;replace hB:=hB.go hb25;replace hs18:=hs18.go hb25;obtain⟨T30,x31,f32,he33,hi28,hc29⟩:=(show MC "pergola/trie.with" (.iface 215 (.agg (brc vs1 (.slice a1 n1 c1)))) #[.slice a14 n15 c16, .slice ax nx cx] (u24) (TRs K (u24) (br k2 y2))from⟨_,_,_,rfl,ML _,by rw[<-e2];exact Ic hk1 hy1 hn1 hx hx2 (λb hb=>hK b (Al hB.size hb)) hs18 (hnb.drop _) (λi r e=> .inl (hfree i r e))⟩);refine Ym 15 (og f172 4 15) f32 (#[x31]++#[.slice a14 n15 c16, .slice ax nx cx]) (λ_=>hi28 _ _ _ _ _ _ _ rfl (by kernel_rfl) (by kernel_rfl)) (R:=TRs K (u24) (br k2 y2)) ?_ (λu w' h=>hr4.go h.2) ?_ yn
  ·exact hc29
  rintro _ u26⟨⟨vs2,a2,n2,c2,rfl,hk2,hy2,hn2⟩,hb27⟩;replace hk2:TK K u26 k2 vs2:=hk2;replace hr4:=hr4.go hb27;refine Dx [] 19 (og f172 4 19) (.func (.method "pergola/trie.under") #[.iface 215 (.agg (brc vs2 (.slice a2 n2 c2)))] #[]) (λv hv=>(λ_=>by kernel_rfl)) hr4<|Dx [] 20 (og f172 4 20) (.func (.method "pergola/trie.under") #[.iface 215 (.agg (brc vs2 (.slice a2 n2 c2)))] #[]) (λv hv=>(λ_=>by kernel_rfl)) hr4<|Dy [21] [22] hr4 ?_;replace hs23:=(hs23.go hb25).go hb27;obtain⟨T38,x39,f40,he41,hi36,hc37⟩:=(Vj (show TA K (u26) (br k2 y2) _ from⟨vs2,_,_,_,rfl,hk2,hy2,hn2⟩) hs23);refine Ym 22 (og f172 4 22) f40 (#[x39]++#[.slice a19 n20 c21]) (λ_=>hi36 _ _ _ _ _ _ _ rfl (by kernel_rfl) (by kernel_rfl)) (R:=TRs K (u26) (und (q.take m) (br k2 y2))) ?_ (λu w' h=>hr4.go h.2) ?_ yn
  ·exact hc37
  rintro vR u34⟨ht,hb35⟩;replace hr4:=hr4.go hb35;refine Dq [23] hr4 ?_;replace hB:=(hB.go hb27).go hb35;exact Hr 2 vR ⟨_,rfl,(by rw[e3,e2];exact ht),hB⟩
theorem Vo{t:Tr}(hp:Sk K w a n c p)(ht0:TA K w t (.iface Tu xu))(hOt:Ok B t)(hq:Sk K w aq nq cq q){nx:Nat}(hx:Sk K w ax nx cx x)(hx2:nx<=256)(hK:∀b,w.heap.size<=b->K b)(hm:Ni.com p q=m)(hnb:Nb q)(hl1:p.length<=64)(hl2:q.length<=p.length+B)(h64:p.length+B<=64)(hmn:m=n)(hF:WS t):
 Calls prog 192 #[.agg #[.slice a n c, .iface Tu xu], .slice aq nq cq, .slice ax nx cx] w λe w'=>∃u,e= .returned u/\TRs K w (put (ext p t) q x) u w':=by
 have hB:=Bl.refl w;have lp:=hp.len;have lq:=hq.len;have hm12:=Ni.com_le p q;rw[hm]at hm12;obtain⟨hm1,hm2⟩:=hm12;refine DB func192 61<|Hn 2 (#[.slice a n c, .iface Tu xu]) 220 ?_;intro w1 g2 hn3 hr4;have hgs:=hn3.hg;refine Hl 6 hr4 0 27 (.slice a n c) ?_;replace hp:=hp.go hn3.below;replace hq:=hq.go hn3.below;refine Hc 1 (R:=λu w'=>u= .int .i64 (m:Int)/\Bl (w1) w') (((Ni.common_any _ _ _ _ _ _ p q _ hp.ag hq.ag (by omega) (by omega)).mono (λe w' h=>⟨_,by rw[h.1,hm],rfl,h.2⟩))) ?_;rintro _ u5⟨rfl,hb6⟩;replace hr4:=hr4.go hb6;refine Hl 8 hr4 0 27 (.slice a n c)<|Hq 1 (m:Int) (n:Int)<|GL 4 (λv=>Rw g2 v (#[.slice a n c, .iface Tu xu]) 220) (hr4.drew) ?_;replace hr4:=hr4.drew;refine Dl [0] 1 (λv hv=>hv) 0 27 (.slice a n c) hr4<|Dl [2] 3 (λv hv=>hv) 1 65 (.iface Tu xu) hr4 ?_;replace hq:=(hq.go hb6).drew;obtain⟨a7,n8,c9,hr10,hs11⟩:=hq.cutFrom m (by have:=hq.len;omega);refine Dx [4,5] 6 (og f192 3 6) (.slice a7 n8 c9) (λv hv=>(λ_=>hr10 _ _ _ _ _ _ rfl (by kernel_rfl) (by kernel_rfl) rfl)) hr4<|Dx [7] 8 (og f192 3 8) (.iface Tu xu) (λv hv=>(λ_=>by kernel_rfl)) hr4<|Dy [9] [10] hr4 ?_;replace hB:=((hB.go hn3.below).go hb6).drew;replace hx:=((hx.go hn3.below).go hb6).drew;replace ht0:=((ht0.go hn3.below).go hb6).drew;obtain⟨T16,x17,f18,he19,hi14,hc15⟩:=(hF hOt (by omega) (by rw[AQ];omega) (hnb.drop _) ht0 hs11 hx hx2 (λb hb=>hK b (Al hB.size hb)));refine Ym 10 (og f192 3 10) f18 (#[x17]++#[.slice a7 n8 c9, .slice ax nx cx]) (λ_=>hi14 _ _ _ _ _ _ _ rfl (by kernel_rfl) (by kernel_rfl)) (R:=TRs K (u5.drew) (put t (q.drop m) x)) ?_ (λu w' h=>hr4.go h.2) ?_ yn
 ·exact hc15
 rintro vR u12⟨ht,hb13⟩;obtain⟨T2,x2,rfl⟩:=ht.iface (Zq _ _ _);replace hr4:=hr4.go hb13;refine Dx [] 11 (og f192 3 11) (.agg #[.slice a n c, .iface T2 x2]) (λv hv=>(λ_=>by kernel_rfl)) hr4<|Dq [12,13] hr4 ?_;replace hp:=((hp.go hb6).drew).go hb13;replace hB:=hB.go hb13;exact Hr 3 (.iface 220 (.agg #[.slice a n c, .iface T2 x2])) ⟨_,rfl,(by simp only[put];rw[Af (by omega)];have e:m=p.length:=(by omega);subst e;exact⟨_,_,_,_,rfl,hp,ht⟩),hB⟩
theorem Q5{gp op:Nat}(hi:i<16){t:Tr}(hp:Sk K w (some ⟨gp,op,none⟩) n c p)(ht0:TA K w t (.iface Tu xu))(hOt:Ok B t)(hq:Sk K w aq nq cq q){nx:Nat}(hx:Sk K w ax nx cx x)(hx2:nx<=256)(hK:∀b,w.heap.size<=b->K b)(hm:Ni.com p q=m)(hnb:Nb q)(hl1:p.length<=64)(hl2:q.length<=p.length+B)(h64:p.length+B<=64)(hmn:m<n)(hpi:p.getD (Ni.com p q) 0=(i:Int))(hcm:w.cell? ⟨gp,op+m*1,none⟩=some (.int .u8 (i:Int))):
 Calls prog 192 #[.agg #[.slice (some ⟨gp,op,none⟩) n c, .iface Tu xu], .slice aq nq cq, .slice ax nx cx] w λe w'=>∃u,e= .returned u/\TRs K w (put (ext p t) q x) u w':=by
 have hB:=Bl.refl w;have lp:=hp.len;have lq:=hq.len;have hm12:=Ni.com_le p q;obtain⟨hfree,e3⟩:=XB (c:=t) (v:=x) (by omega) hnb i hpi;obtain⟨k2,y2,e2⟩:=Vl (upd nk i (und (p.drop (Ni.com p q+1)) t)) [] (q.drop (Ni.com p q)) x;rw[hm]at hfree e3 e2;rw[hm]at hm12;obtain⟨hm1,hm2⟩:=hm12;refine DB func192 61<|Hn 2 (#[.slice (some ⟨gp,op,none⟩) n c, .iface Tu xu]) 220 ?_;intro w1 g2 hn3 hr4;have hgs:=hn3.hg;refine Hl 6 hr4 0 27 (.slice (some ⟨gp,op,none⟩) n c) ?_;replace hp:=hp.go hn3.below;replace hq:=hq.go hn3.below;refine Hc 1 (R:=λu w'=>u= .int .i64 (m:Int)/\Bl (w1) w') (((Ni.common_any _ _ _ _ _ _ p q _ hp.ag hq.ag (by omega) (by omega)).mono (λe w' h=>⟨_,by rw[h.1,hm],rfl,h.2⟩))) ?_;rintro _ u5⟨rfl,hb6⟩;replace hr4:=hr4.go hb6;refine Hl 8 hr4 0 27 (.slice (some ⟨gp,op,none⟩) n c)<|Hz 1 (m:Int) (n:Int) ?_;have hB4:=lt_of_get hr4;refine Hn 7 (brc (λ_=> .nilIface) (.slice none 0 0)) 215 ?_;intro w7 g8 hn9 hr10;have hg8:=hn9.hg;replace hB:=((hB.go hn3.below).go hb6).go hn9.below;have hB8:=hB.size;have hg8n:g2<g8:=by omega
 have hgp:gp<w.heap.size:=Aj hcm;replace hr4:=hr4.go hn9.below;have hS:Sx g2 (#[.slice (some ⟨gp,op,none⟩) n c, .iface Tu xu]) 220 ⟨gp,op+m*1,none⟩ (.int .u8 (i:Int)) w7:=⟨hr4,(hB.cell (p:=⟨gp,op+m*1,none⟩) (Aj hcm)).trans hcm⟩;refine GL 3 (λv=>Sx g2 (#[.slice (some ⟨gp,op,none⟩) n c, .iface Tu xu]) 220 ⟨gp,op+m*1,none⟩ (.int .u8 (i:Int)) v) (hS.drew) ?_;replace hS:=hS.drew;refine Dl [0] 1 (λv hv=>hv.r) 0 27 (.slice (some ⟨gp,op,none⟩) n c) hS<|Dx [2] 3 (og f192 5 3) (.pointer (some ⟨gp,op+m*1,none⟩)) (λv hv _=>AX 27 _ _ gp op m n c 1 5 rfl (by kernel_rfl) (by kernel_rfl) (by omega) underlying27 (by kernel_rfl)) hS<|Dx [] 4 (og f192 5 4) (.int .u8 (i:Int)) (λv hv _=>AF 5 _ _ _ _ rfl (by kernel_rfl) hv.c underlying5 rfl) hS<|Dl [5] 6 (λv hv=>hv.r) 1 65 (.iface Tu xu) hS<|Dl [7] 8 (λv hv=>hv.r) 0 27 (.slice (some ⟨gp,op,none⟩) n c) hS<|Dx [9] 10 (og f192 5 10) (.int .i64 ((m+1:Nat):Int)) (λv hv _=>CO (v:= .int .i64 (IntKind.i64.wrap ((m:Int)+1))) (by kernel_rfl) (Av (Value.int .i64) (by rw[Ee (by omega) (by omega)];rfl))) hS ?_;replace hp:=((hp.go hb6).go hn9.below).drew;obtain⟨a11,n12,c13,hr14,hs15⟩:=hp.cutFrom (m+1) (by have:=hp.len;omega);refine Dx [] 11 (og f192 5 11) (.slice a11 n12 c13) (λv hv=>(λ_=>hr14 _ _ _ _ _ _ rfl (by kernel_rfl) (by kernel_rfl) rfl)) hS<|Dx [] 12 (og f192 5 12) (.iface Tu xu) (λv hv=>(λ_=>by kernel_rfl)) hS<|Dy [13,15] [14] hS ?_;replace ht0:=(((ht0.go hn3.below).go hb6).go hn9.below).drew;replace hB:=hB.drew;obtain⟨T20,x21,f22,he23,hi18,hc19⟩:=(Q3 t hOt ht0 hs15 (by rw[AQ];omega) (by omega) (λb hb=>hK b (Al hB.size hb)));refine Ym 14 (og f192 5 14) f22 (#[x21]++#[.slice a11 n12 c13]) (λ_=>hi18 _ _ _ _ _ _ _ rfl (by kernel_rfl) (by kernel_rfl)) (R:=TRs K (w7.drew) (und (p.drop (m+1)) t)) ?_ (λu w' h=>hS.go h.2) ?_ yn
 ·exact hc19
 rintro vU u16⟨htU,hb17⟩;replace hS:=hS.go hb17;refine Dx [] 16 (og f192 5 16) (.pointer (some ⟨g8,0+i*1,none⟩)) (λv hv _=>EV (kd:= .u8) 213 _ _ g8 0 i 16 1 65 rfl (by kernel_rfl) (by kernel_rfl) hi (by omega) underlying213 (by kernel_rfl)) hS<|Dz [17] ?_;replace hr10:=hr10.drew.go hb17;refine Ya 17 (og f192 5 17) g8 (0+i*1) vU (λ_=>BO 65 _ _ g8 (0+i*1) _ 215 _ hr10 rfl (by kernel_rfl) (by kernel_rfl) (by show 0+i*1<17;omega) htU.cells htU.one (by kernel_rfl)) (λw' h=>hS.apart h (by omega) (by show gp≠_;omega)) ?_ yn;intro w24 hp25;have hbs:Bs u16 w24 g8:=Bs.of hr10 ((TK.none K u16).noint _ _ _) hp25;replace hr10:Rw g8 w24 (brc (updv (λ_=> .nilIface) i vU) (.slice none 0 0)) 215:=hr10.set hp25 (by rw[AD,Cl];exact NL _ _ _ _ hi);replace htU:=htU.bs hbs;have hkF:TK K w24 (upd nk i (und (p.drop (m+1)) t)) (updv (λ_=> .nilIface) i vU):=(TK.none K _).put htU;refine Do<|GL 2 (λv=>Rw g8 v (brc (updv (λ_=> .nilIface) i vU) (.slice none 0 0)) 215) (hr10.drew) ?_;replace hr10:=hr10.drew;refine Dx [] 0 (og f192 6 0) (.agg (brc (updv (λ_=> .nilIface) i vU) (.slice none 0 0))) (λv hv _=>Ep 215 _ _ _ _ _ _ rfl (by kernel_rfl) hv underlying215 rfl (by kernel_rfl)) hr10 ?_;replace hq:=(((((hq.go hb6).go hn9.below).drew).go hb17).bs hbs).drew;obtain⟨a26,n27,c28,hr29,hs30⟩:=hq.cutFrom m (by have:=hq.len;omega);refine Dx [1,2] 3 (og f192 6 3) (.slice a26 n27 c28) (λv hv=>(λ_=>hr29 _ _ _ _ _ _ rfl (by kernel_rfl) (by kernel_rfl) rfl)) hr10 ?_;obtain⟨a31,n32,c33,hr34,hs35⟩:=hq.cutTo m (by have:=hq.len;omega);refine Dx [4,6,7] 8 (og f192 6 8) (.slice a31 n32 c33) (λv hv=>(λ_=>hr34 _ _ _ _ _ _ rfl (by kernel_rfl) (by kernel_rfl) rfl)) hr10<|Dz [5] ?_;replace hx:=((((((hx.go hn3.below).go hb6).go hn9.below).drew).go hb17).bs hbs).drew;replace hB:=((hB.go hb17).set hp25 (by omega)).drew;replace hkF:=hkF.drew;refine Yc 5 (R:=TRs K (w24.drew) (br k2 y2)) ((by rw[<-e2];exact Ic hkF (Sk.nil K _) (by omega) hx hx2 (λb hb=>hK b (Al hB.size hb)) hs30 (hnb.drop _) (λi r e=> .inl (hfree i r e)))) (λu w' h=>hr10.go h.2) ?_ yn;rintro _ u36⟨⟨vs2,a2,n2,c2,rfl,hk2,hy2,hn2⟩,hb37⟩;replace hk2:TK K u36 k2 vs2:=hk2;replace hr10:=hr10.go hb37;refine Dx [] 9 (og f192 6 9) (.func (.method "pergola/trie.under") #[.iface 215 (.agg (brc vs2 (.slice a2 n2 c2)))] #[]) (λv hv=>(λ_=>by kernel_rfl)) hr10<|Dx [] 10 (og f192 6 10) (.func (.method "pergola/trie.under") #[.iface 215 (.agg (brc vs2 (.slice a2 n2 c2)))] #[]) (λv hv=>(λ_=>by kernel_rfl)) hr10<|Dy [11] [12] hr10 ?_;replace hs35:=hs35.go hb37;obtain⟨T42,x43,f44,he45,hi40,hc41⟩:=(Vj (show TA K (u36) (br k2 y2) _ from⟨vs2,_,_,_,rfl,hk2,hy2,hn2⟩) hs35);refine Ym 12 (og f192 6 12) f44 (#[x43]++#[.slice a31 n32 c33]) (λ_=>hi40 _ _ _ _ _ _ _ rfl (by kernel_rfl) (by kernel_rfl)) (R:=TRs K (u36) (und (q.take m) (br k2 y2))) ?_ (λu w' h=>hr10.go h.2) ?_ yn
 ·exact hc41
 rintro vR u38⟨ht,hb39⟩;replace hr10:=hr10.go hb39;refine Dq [13] hr10 ?_;replace hB:=(hB.go hb37).go hb39;exact Hr 2 vR ⟨_,rfl,(by rw[e3,e2];exact ht),hB⟩
theorem Zr(t:Tr):WS t:=by
 induction t with
 |no=>intro K w v a n c q a' n' c' x B hO;exact hO.elim
 |leaf p x0=>
  intro K w v a n c q a' n' c' x B hO h64 hl hnb ht hq hx hx2 hK;obtain⟨a1,n1,c1,a2,n2,c2,rfl,h1,h2,h3⟩:=ht;exact⟨_,_,_,rfl,To _,Ty h1 h2 h3 hq hx hx2 hK hO.1 hnb (Al hO.2.1 h64) (Al hl h64)⟩
 |ext p t ih=>
  intro K w v a n c q a' n' c' x B hO h64 hl hnb ht hq hx hx2 hK;obtain⟨a1,n1,c1,u,rfl,h1,h2⟩:=ht;obtain⟨o1,o2,o3,o4,o5⟩:=hO;obtain⟨Tu,xu,rfl⟩:=h2.iface (λe=>by rw[e]at o4;simp[isBr]at o4);have lp:=h1.len;have hcl:=Ni.com_le p q;refine⟨_,_,_,rfl,Tp _,?_⟩;by_cases hm:Ni.com p q=n1
  ·exact Vo h1 h2 o5 hq hx hx2 hK rfl hnb (by omega) (by omega) (by omega) hm ih
  ·obtain⟨g,o,rfl,hc⟩:=h1.nth (m:=Ni.com p q) (by omega);have hmem:p.getD (Ni.com p q) 0∈p:=by
    rw[Et,Ac (by omega)];exact Bo _
   have hi:=o1 _ hmem;obtain⟨i,hi2⟩:=Dj hi.1;rw[hi2]at hc hi;exact Q5 (i:=i) (by omega) h1 h2 o5 hq hx hx2 hK rfl hnb (by omega) (by omega) (by omega) (by omega) hi2 hc
 |br k y ih=>
  intro K w v a n c q a' n' c' x B hO h64 hl hnb ht hq hx hx2 hK;obtain⟨vs,a1,n1,c1,rfl,h1,h2,h3⟩:=ht;refine⟨_,_,_,rfl,ML _,Ic h1 h2 h3 hx hx2 hK hq hnb ?_⟩;rintro i r rfl;rcases hO.1 i with h|⟨_,h0,h⟩
  ·exact .inl h
  ·exact .inr ⟨_,h,by omega,by rw[AP]at hl;omega,ih i⟩
def bra(vs:Nat->Value):Array Value:=#[vs 0,vs 1,vs 2,vs 3,vs 4,vs 5,vs 6,vs 7,vs 8,vs 9,vs 10,vs 11,vs 12,vs 13,vs 14,vs 15]
theorem NT{w:World}{g:Nat}{vs:Nat->Value}{s:Value}{ρ:Operand->Value}{o:Oper}(h:Rw g w (brc vs s) 215)(x:Operand)(ho:o.op= .load 213 x)(hx:ρ x= .pointer (some ⟨g,0,none⟩)):(execOp ρ o).run prog w= .ok (.value (.agg (bra vs))) w:=by
 refine NG 213 x g 0 [vs 0,vs 1,vs 2,vs 3,vs 4,vs 5,vs 6,vs 7,vs 8,vs 9,vs 10,vs 11,vs 12,vs 13,vs 14,vs 15] _ ho hx ?_ underlying213 rfl (by kernel_rfl);intro j v hj;have hl:j<16:=(Aw.1 hj).1;rw[AD,Ae _ _ _ _ _ _ h,H9 _ _ _ hl]
 match j,hl,hj with
 |0,_,hj=>exact hj
 |1,_,hj=>exact hj
 |2,_,hj=>exact hj
 |3,_,hj=>exact hj
 |4,_,hj=>exact hj
 |5,_,hj=>exact hj
 |6,_,hj=>exact hj
 |7,_,hj=>exact hj
 |8,_,hj=>exact hj
 |9,_,hj=>exact hj
 |10,_,hj=>exact hj
 |11,_,hj=>exact hj
 |12,_,hj=>exact hj
 |13,_,hj=>exact hj
 |14,_,hj=>exact hj
 |15,_,hj=>exact hj
 |n+16,hl,_=>omega
theorem Zs(vs:Nat->Value)(w:World):∀j:Nat,j<16->(Instr.index 213 (.agg (bra vs)) (.int .i64 (j:Int))).run prog w= .ok (vs j) w
 |0,_=>by kernel_rfl
 |1,_=>by kernel_rfl
 |2,_=>by kernel_rfl
 |3,_=>by kernel_rfl
 |4,_=>by kernel_rfl
 |5,_=>by kernel_rfl
 |6,_=>by kernel_rfl
 |7,_=>by kernel_rfl
 |8,_=>by kernel_rfl
 |9,_=>by kernel_rfl
 |10,_=>by kernel_rfl
 |11,_=>by kernel_rfl
 |12,_=>by kernel_rfl
 |13,_=>by kernel_rfl
 |14,_=>by kernel_rfl
 |15,_=>by kernel_rfl
 |n+16,h=>by omega
theorem JI{ρ:Operand->Value}{w:World}{o:Oper}(x y:Operand)(vs:Nat->Value)(j:Nat)(hj:j<16)(ho:o.op= .index 213 x y)(hx:ρ x= .agg (bra vs))(hy:ρ y= .int .i64 (j:Int)):(execOp ρ o).run prog w= .ok (.value (vs j)) w:=by
 unfold execOp;rw[ho];simp only[hx,hy,Bm,Zs vs w j hj,AH,Bp]
theorem Vp{K:Nat->Prop}{w0 w:World}{t:Tr}{v:Value}(h:TA K w0 t v){ρ:Operand->Value}{o:Oper}(i:Nat)(r:TypeId)(ho:o.op= .binOp .neq 65 (.tmp i) (.const .nilIface) r)(hx:ρ (.tmp i)=v)(hy:ρ (.const .nilIface)= .nilIface):(execOp ρ o).run prog w= .ok (.value (.bool (!t.isNo))) w:=by
 unfold execOp;rw[ho];simp only[hx,hy];cases t with
 |no=>rw[show v= .nilIface from h];kernel_rfl
 |leaf p x=>obtain⟨_,_,_,_,_,_,rfl,_⟩:=h;kernel_rfl
 |ext p t=>obtain⟨_,_,_,_,rfl,_⟩:=h;kernel_rfl
 |br k x=>obtain⟨_,_,_,_,rfl,_⟩:=h;kernel_rfl
theorem Vq(h:n<16):IntKind.u8.wrap (n:Int)=n:=by unfold IntKind.wrap;simp[IntKind.bits,IntKind.signed];omega
def DS(t:Tr):Prop:=∀{K:Nat->Prop}{w:World}{v:Value}{a:Option Addr}{n c:Nat}{q:List Int}{B:Nat},Ok B t->B<=64->Nb q->Tr.get t q≠[]->TA K w t v->Sk K w a n c q->(∀b,w.heap.size<=b->K b)->MC "pergola/trie.without" v #[.slice a n c] w (TRs K w (del t q))
theorem Sh(k:Nat->Tr):∀j,kidsN k j<=j
 |0=>Aa _
 |j+1=>by have:=Sh k j;simp only[kidsN];split<;>omega
theorem Tz(k:Nat->Tr)(x:List Int):(kidsN k 16=0/\nrm k x=leaf [] x)∨(kidsN k 16=1/\x=[]/\nrm k x=und [((lastN k 16:Nat):Int)] (k (lastN k 16)))∨(kidsN k 16=1/\x≠[]/\nrm k x=br k x)∨(2<=kidsN k 16/\nrm k x=br k x):=by
 unfold nrm;by_cases h0:kidsN k 16=0
 ·exact .inl ⟨h0,Af h0⟩
 ·by_cases h1:kidsN k 16=1
  ·by_cases hx:x=[]
   ·exact .inr (.inl ⟨h1,hx,by rw[Ad h0,Af ⟨h1,hx⟩]⟩)
   ·exact .inr (.inr (.inl ⟨h1,hx,by rw[Ad h0,Ad (λh=>hx h.2)]⟩))
  ·exact .inr (.inr (.inr ⟨by omega,by rw[Ad h0,Ad (λh=>h1 h.1)]⟩))
theorem Lk(hk:TK K w k vs)(hx:Sk K w a n c x)(hn2:n<=256)(hO:∀i,k i=no∨(i<16/\1<=B/\Ok (B-1) (k i)))(h64:B<=64)(hK:∀b,w.heap.size<=b->K b):
 Calls prog 183 #[.agg (brc vs (.slice a n c))] w λe w'=>∃u,e= .returned u/\TRs K w (nrm k x) u w':=by
 have hB:=Bl.refl w;refine DB func183 45<|Hn 2 (brc vs (.slice a n c)) 215 ?_;intro w1 g2 hn3 hr4;refine Hx 13 (og f183 2 1) (.agg (bra vs)) (λ_=>NT hr4 _ rfl (by kernel_rfl))<|Ho (X:=Nat) 4 (λj=>[(9, .int .i64 (j:Int)),(3, .int .i64 ((kidsN k j:Nat):Int)),(4, .int .i64 ((lastN k j:Nat):Int)),(8, .agg (bra vs)),(1, .pointer (some ⟨g2,0,none⟩)),(2, .nilIface)]) (λj v=>v=w1/\j<=16) (λj=>16-j) 0 ⟨rfl,Ay _⟩ ?_;rintro j v⟨hv,hj⟩ I1 hN1;rw[hv];clear hv v;by_cases hlt:j<16
 ·skip
  have hkl:kidsN k j<=j:=Sh k j;refine Ht 2 ((j:Int)<(16:Int))<|Hx 11 (og f183 4 1) (vs j) (λ_=>JI _ _ vs j hlt rfl (by kernel_rfl) (by kernel_rfl)) ?_;replace hk:=hk.go hn3.below;refine Hx 7 (og f183 5 1) (.bool (!(k j).isNo)) (λ_=>Vp (hk j hlt) _ _ rfl (by kernel_rfl) (by kernel_rfl)) ?_;cases hno:(k j).isNo with
  |true=>
   have ek:kidsN k (j+1)=kidsN k j:=(by simp[kidsN,hno]);have el:lastN k (j+1)=lastN k j:=(by simp[lastN,hno]);rw[<-ek,<-el];refine Hi 7 ((j:Int)+1) ((j+1:Nat):Int) ?_;exact hN1 2 (j+1) ⟨rfl,by omega⟩ (by omega) (λ_=>by kernel_rfl)
  |false=>
   have ek:kidsN k (j+1)=kidsN k j+1:=(by simp[kidsN,hno]);have el:lastN k (j+1)=j:=(by simp[lastN,hno]);refine Hw 5 (.int .i64 (IntKind.i64.wrap (((kidsN k j:Nat):Int)+1))) (.int .i64 ((kidsN k (j+1):Nat):Int)) (Av (Value.int .i64) (by rw[Ee (by omega) (by omega),ek];rfl))<|Hw 0 (.int .i64 (j:Int)) (.int .i64 ((lastN k (j+1):Nat):Int)) (by rw[el])<|Hi 6 ((j:Int)+1) ((j+1:Nat):Int) ?_;exact hN1 2 (j+1) ⟨rfl,by omega⟩ (by omega) (λ_=>by kernel_rfl)
 obtain rfl:j=16:=by omega
 refine Hb 2 (decide (((16:Nat):Int)<(16:Int))) false (rfl) ?_;rcases Tz k x with⟨h0,en⟩|⟨h1,hx0,en⟩|⟨h1,hx0,en⟩|⟨h1,en⟩
 ·skip
  replace hx:=hx.go hn3.below;have lx:=hx.len;refine Hq 14 ((kidsN k 16:Nat):Int) (0:Int)<|Hl 7 hr4 16 27 (.slice a n c) ?_;replace hB:=hB.go hn3.below;exact Hr 8 (.iface 98 (.agg #[.slice none 0 0, .slice a n c])) ⟨_,rfl,(by rw[en];exact⟨_,_,_,_,_,_,rfl,Sk.nil _ _,hx,hn2⟩),hB⟩
 ·skip
  replace hx:=hx.go hn3.below;have lx:=hx.len;obtain⟨hl16,hlne,_⟩:=MJ h1;obtain⟨L,hL⟩:∃L,lastN k 16=L:=⟨_,rfl⟩;rw[hL]at hl16 hlne en⊢;replace hk:=hk.go hn3.below;obtain⟨TL,xL,eL⟩:=(hk L hl16).iface hlne;refine Hz 14 ((kidsN k 16:Nat):Int) (0:Int)<|Hq 7 ((kidsN k 16:Nat):Int) (1:Int)<|Hl 2 hr4 16 27 (.slice a n c)<|Hb 1 ((n:Int)==(0:Int)) true (DM.2 (by rw[hx0,Ch]at lx;omega)) ?_;replace hB:=hB.go hn3.below;have hB0:=hB.size;have hOL:Ok (B-1) (k L):=by rcases hO L with h|⟨_,_,h⟩;exact absurd h hlne;exact h
  refine Hx 9 (og f183 11 2) (.pointer (some ⟨g2,0+L*1,none⟩)) (λ_=>EV (kd:= .i64) 213 _ _ g2 0 L 16 1 65 rfl (by kernel_rfl) (by kernel_rfl) hl16 (by omega) underlying213 (by kernel_rfl))<|Hx 0 (og f183 11 3) (.iface TL xL) (λ_=>AF 65 _ ⟨g2,0+L*1,none⟩ _ _ rfl (by kernel_rfl) (by rw[AD,Cl,Ae _ _ _ _ _ _ hr4,H9 _ _ _ hl16,eL]) underlying65 rfl)<|Hw 1 (.int .u8 (IntKind.u8.wrap (L:Int))) (.int .u8 (L:Int)) (Av (Value.int .u8) (Vq hl16))<|KB 0 #[.int .u8 (L:Int)] 5 1 ?_;intro w5 g6 hn7 _;have hzhn7:=hB.size;have hs1:Sk K w5 (some ⟨g6,0,none⟩) 1 1 [(L:Int)]:=NP (by omega) hn7 (λb hb=>hK b (by have:=hB0;omega));replace hB:=hB.go hn7.below;replace hk:=hk.go hn7.below;obtain⟨T12,x13,f14,he15,hi10,hc11⟩:=(Q3 (k L) hOL (eL▸hk L hl16) hs1 (by simp) (by omega) (λb hb=>hK b (Al hB.size hb)));refine Hm 0 (og f183 11 7) f14 (#[x13]++#[.slice (some ⟨g6,0,none⟩) 1 1]) (λ_=>hi10 _ _ _ _ _ _ _ rfl (by kernel_rfl) (by kernel_rfl)) (R:=TRs K (w5) (und [(L:Int)] (k L))) ?_ ?_
  ·exact hc11
  rintro vR u8⟨ht,hb9⟩;replace hB:=hB.go hb9;exact Hr 6 vR ⟨_,rfl,(by rw[en];exact ht),hB⟩
 ·skip
  replace hx:=hx.go hn3.below;have lx:=hx.len;refine Hz 14 ((kidsN k 16:Nat):Int) (0:Int)<|Hq 7 ((kidsN k 16:Nat):Int) (1:Int)<|Hl 2 hr4 16 27 (.slice a n c)<|Hb 1 ((n:Int)==(0:Int)) false (BB.2 (by have:=BC.2 hx0;omega))<|Hx 10 (og f183 12 0) (.agg (brc vs (.slice a n c))) (λ_=>Ep 215 _ _ _ _ _ _ rfl (by kernel_rfl) hr4 underlying215 rfl (by kernel_rfl)) ?_;replace hB:=hB.go hn3.below;replace hk:=hk.go hn3.below;exact Hr 5 (.iface 215 (.agg (brc vs (.slice a n c)))) ⟨_,rfl,(by rw[en];exact⟨vs,_,_,_,rfl,hk,hx,hn2⟩),hB⟩
 ·skip
  replace hx:=hx.go hn3.below;have lx:=hx.len;refine Hz 14 ((kidsN k 16:Nat):Int) (0:Int)<|Hz 7 ((kidsN k 16:Nat):Int) (1:Int)<|Hx 15 (og f183 12 0) (.agg (brc vs (.slice a n c))) (λ_=>Ep 215 _ _ _ _ _ _ rfl (by kernel_rfl) hr4 underlying215 rfl (by kernel_rfl)) ?_;replace hB:=hB.go hn3.below;replace hk:=hk.go hn3.below;exact Hr 5 (.iface 215 (.agg (brc vs (.slice a n c)))) ⟨_,rfl,(by rw[en];exact⟨vs,_,_,_,rfl,hk,hx,hn2⟩),hB⟩
theorem NU:
 Calls prog 173 #[.agg #[.slice a n c, .slice a' n' c'], .slice aq nq cq] w λe w'=>∃u,e= .returned u/\TRs K w (del (leaf p x) q) u w':=by
 have hB:=Bl.refl w;refine DB func173 5<|Hn 2 (#[.slice a n c, .slice a' n' c']) 98 ?_;intro w1 g2 hn3 hr4;replace hB:=hB.go hn3.below;exact Hr 9 (.nilIface) ⟨_,rfl,rfl,hB⟩
theorem NX{t:Tr}(hp:Sk K w a n c p)(ht0:TA K w t (.iface Tu xu))(hOt:Ok B t)(hF:DS t)(hq:Sk K w aq nq cq q)(hK:∀b,w.heap.size<=b->K b)(hnb:Nb q)(hl1:p.length<=64)(h64:B<=64)(hpre:q.take p.length=p)(hget:Tr.get t (q.drop p.length)≠[])(hOD:Ok B (del t (q.drop p.length))):
 Calls prog 193 #[.agg #[.slice a n c, .iface Tu xu], .slice aq nq cq] w λe w'=>∃u,e= .returned u/\TRs K w (del (ext p t) q) u w':=by
 have hB:=Bl.refl w;have lp:=hp.len;have lq:=hq.len;have hpl:p.length<=q.length:=by have:=Av List.length hpre;rw[Ap]at this;omega
 refine DB func193 18<|Hn 2 (#[.slice a n c, .iface Tu xu]) 220 ?_;intro w1 g2 hn3 hr4;refine GL 4 (λv=>Rw g2 v (#[.slice a n c, .iface Tu xu]) 220) (hr4.drew) ?_;replace hr4:=hr4.drew;refine Dl [0] 1 (λv hv=>hv) 1 65 (.iface Tu xu) hr4<|Dl [2,3] 4 (λv hv=>hv) 0 27 (.slice a n c) hr4 ?_;replace hq:=(hq.go hn3.below).drew;obtain⟨a5,n6,c7,hr8,hs9⟩:=hq.cutFrom n (by have:=hq.len;omega);refine Dx [5] 6 (og f193 1 6) (.slice a5 n6 c7) (λv hv=>(λ_=>hr8 _ _ _ _ _ _ rfl (by kernel_rfl) (by kernel_rfl) rfl)) hr4<|Dx [] 7 (og f193 1 7) (.iface Tu xu) (λv hv=>(λ_=>by kernel_rfl)) hr4<|Dl [8,10] 11 (λv hv=>hv) 0 27 (.slice a n c) hr4<|Dz [9] ?_;replace hB:=(hB.go hn3.below).drew;replace ht0:=(ht0.go hn3.below).drew;obtain⟨T14,x15,f16,he17,hi12,hc13⟩:=(hF hOt (by omega) (hnb.drop _) hget ht0 (show Sk K (w1.drew) _ _ _ (q.drop p.length)from lp▸hs9) (λb hb=>hK b (Al hB.size hb)));refine Ym 9 (og f193 1 9) f16 (#[x15]++#[.slice a5 n6 c7]) (λ_=>hi12 _ _ _ _ _ _ _ rfl (by kernel_rfl) (by kernel_rfl)) (R:=TRs K (w1.drew) (del t (q.drop p.length))) ?_ (λu w' h=>hr4.go h.2) ?_ yn
 ·exact hc13
 rintro vD u10⟨htD,hb11⟩;refine Dz [12] ?_;replace hp:=((hp.go hn3.below).drew).go hb11;replace hB:=hB.go hb11;obtain⟨T22,x23,f24,he25,hi20,hc21⟩:=(Q3 _ hOD htD hp (by omega) (by omega) (λb hb=>hK b (Al hB.size hb)));replace hr4:=hr4.go hb11;refine Ym 12 (og f193 1 12) f24 (#[x23]++#[.slice a n c]) (λ_=>hi20 _ _ _ _ _ _ _ rfl (by kernel_rfl) (by kernel_rfl)) (R:=TRs K (u10) (und p (del t (q.drop p.length)))) ?_ (λu w' h=>hr4.go h.2) ?_ yn
 ·exact hc21
 rintro vR u18⟨ht,hb19⟩;replace hr4:=hr4.go hb19;refine Dq [13] hr4 ?_;replace hB:=hB.go hb19;exact Hr 2 vR ⟨_,rfl,ht,hB⟩
theorem NY(hk:TK K w k vs)(hy:Sk K w a n c y)(hn2:n<=256)(hK:∀b,w.heap.size<=b->K b)(h64:B<=64)(hq:Sk K w aq nq cq q)(hnq:nq=0)(hON:∀j,k j=no∨(j<16/\1<=B/\Ok (B-1) (k j))):
 Calls prog 185 #[.agg (brc vs (.slice a n c)), .slice aq nq cq] w λe w'=>∃u,e= .returned u/\TRs K w (del (br k y) q) u w':=by
 have hB:=Bl.refl w;refine DB func185 27<|Hn 2 (brc vs (.slice a n c)) 215 ?_;intro w1 g2 hn3 hr4;have hgs:=hn3.hg;refine Hq 8 (nq:Int) (0:Int)<|Ha 5 (og f185 2 1) g2 16 (.slice none 0 0) (λ_=>BO 27 _ _ g2 16 _ 215 _ hr4 rfl (by kernel_rfl) (by kernel_rfl) (by show 16<17;omega) rfl rfl (by kernel_rfl)) ?_;intro w5 hp6;replace hk:=hk.go hn3.below;have hbs:Bs w1 w5 g2:=Bs.of hr4 (hk.noint _ _ _) hp6;replace hr4:Rw g2 w5 (brc vs (.slice none 0 0)) 215:=hr4.set hp6 (rfl);refine Hx 4 (og f185 5 0) (.agg (brc vs (.slice none 0 0))) (λ_=>Ep 215 _ _ _ _ _ _ rfl (by kernel_rfl) hr4 underlying215 rfl (by kernel_rfl)) ?_;replace hB:=(hB.go hn3.below).set hp6 (by omega);replace hk:=hk.bs hbs;refine Hc 0 (R:=TRs K (w5) (nrm k [])) ((Lk hk (Sk.nil K _) (by omega) hON h64 (λb hb=>hK b (Al hB.size hb)))) ?_;rintro vN u7⟨htN,hb8⟩;replace hq:=((hq.go hn3.below).bs hbs).go hb8;replace hB:=hB.go hb8;exact Hr 4 vN ⟨_,rfl,(by have e:q=[]:=Ar (by have:=hq.len;omega);subst e;exact htN),hB⟩
theorem My(hk:TK K w k vs)(hy:Sk K w a n c y)(hn2:n<=256)(hK:∀b,w.heap.size<=b->K b)(h64:B<=64)(hi:i<16)(hq:Sk K w (some ⟨gq,oq,none⟩) nq cq ((i:Int)::r))(hnq:0<nq)(hc0:w.cell? ⟨gq,oq+0*1,none⟩=some (.int .u8 (i:Int)))(hF:DS (k i))(hOi:Ok (B-1) (k i))(hget:Tr.get (k i) r≠[])(hnb:Nb r)(e0:vs i= .iface T0 v0)(hti:TA K w (k i) (.iface T0 v0))(hON:∀j,upd k i (del (k i) r) j=no∨(j<16/\1<=B/\Ok (B-1) (upd k i (del (k i) r) j))):
 Calls prog 185 #[.agg (brc vs (.slice a n c)), .slice (some ⟨gq,oq,none⟩) nq cq] w λe w'=>∃u,e= .returned u/\TRs K w (nrm (upd k i (del (k i) r)) y) u w':=by
 have hB:=Bl.refl w;refine DB func185 27<|Hn 2 (brc vs (.slice a n c)) 215 ?_;intro w1 g2 hn3 hr4;have hgs:=hn3.hg;refine Hz 8 (nq:Int) (0:Int)<|Hx 6 (og f185 3 1) (.pointer (some ⟨gq,oq+0*1,none⟩)) (λ_=>AX 27 _ _ gq oq 0 nq cq 1 5 rfl (by kernel_rfl) (by kernel_rfl) (by omega) underlying27 (by kernel_rfl)) ?_;replace hB:=hB.go hn3.below;refine Hx 0 (og f185 3 2) (.int .u8 (i:Int)) (λ_=>AF 5 _ ⟨gq,oq+0*1,none⟩ _ _ rfl (by kernel_rfl) ((hB.cell (p:=⟨gq,oq+0*1,none⟩) (Aj hc0)).trans hc0) underlying5 rfl)<|GL 3 (λ_=>True) (trivial)<|Dx [0,1,2] 3 (og f185 4 3) (.pointer (some ⟨g2,0+i*1,none⟩)) (λv hv _=>EV (kd:= .u8) 213 _ _ g2 0 i 16 1 65 rfl (by kernel_rfl) (by kernel_rfl) hi (by omega) underlying213 (by kernel_rfl)) trivial ?_;replace hq:=(hq.go hn3.below).drew;obtain⟨a5,n6,c7,hr8,hs9⟩:=hq.cutFrom 1 (by have:=hq.len;omega);refine Dx [5] 6 (og f185 4 6) (.slice a5 n6 c7) (λv hv=>(λ_=>hr8 _ _ _ _ _ _ rfl (by kernel_rfl) (by kernel_rfl) rfl)) trivial<|Dy [10] [4] trivial ?_;replace hr4:=hr4.drew;refine Yx 4 (og f185 4 4) (.iface T0 v0) (λ_=>AF 65 _ ⟨g2,0+i*1,none⟩ _ _ rfl (by kernel_rfl) (by rw[AD,Cl,Ae _ _ _ _ _ _ hr4,H9 _ _ _ hi,e0]) underlying65 rfl) trivial ?_ yn;refine Dx [] 7 (og f185 4 7) (.iface T0 v0) (λv hv=>(λ_=>by kernel_rfl)) trivial<|Dy [8] [9] trivial ?_;replace hti:=(hti.go hn3.below).drew;replace hB:=hB.drew;obtain⟨T14,x15,f16,he17,hi12,hc13⟩:=(hF hOi (by omega) hnb hget hti hs9 (λb hb=>hK b (Al hB.size hb)));refine Ym 9 (og f185 4 9) f16 (#[x15]++#[.slice a5 n6 c7]) (λ_=>hi12 _ _ _ _ _ _ _ rfl (by kernel_rfl) (by kernel_rfl)) (R:=TRs K (w1.drew) (del (k i) r)) ?_ (λu w' h=>trivial) ?_ yn
 ·exact hc13
 rintro vR u10⟨ht,hb11⟩;refine Dx [] 11 (og f185 4 11) (.pointer (some ⟨g2,0+i*1,none⟩)) (λv hv _=>EV (kd:= .u8) 213 _ _ g2 0 i 16 1 65 rfl (by kernel_rfl) (by kernel_rfl) hi (by omega) underlying213 (by kernel_rfl)) trivial<|Dz [12] ?_;replace hr4:=hr4.go hb11;refine Ya 12 (og f185 4 12) g2 (0+i*1) vR (λ_=>BO 65 _ _ g2 (0+i*1) _ 215 _ hr4 rfl (by kernel_rfl) (by kernel_rfl) (by show 0+i*1<17;omega) ht.cells ht.one (by kernel_rfl)) (λw' h=>trivial) ?_ yn;intro w18 hp19;replace hk:=((hk.go hn3.below).drew).go hb11;have hbs:Bs u10 w18 g2:=Bs.of hr4 (hk.noint _ _ _) hp19;replace hr4:Rw g2 w18 (brc (updv vs i vR) (.slice a n c)) 215:=hr4.set hp19 (by rw[AD,Cl];exact NL _ _ _ _ hi);refine Do<|Hx 3 (og f185 5 0) (.agg (brc (updv vs i vR) (.slice a n c))) (λ_=>Ep 215 _ _ _ _ _ _ rfl (by kernel_rfl) hr4 underlying215 rfl (by kernel_rfl)) ?_;replace hy:=(((hy.go hn3.below).drew).go hb11).bs hbs;replace hB:=(hB.go hb11).set hp19 (by omega);replace hk:=hk.bs hbs;replace ht:=ht.bs hbs;refine Hc 0 (R:=TRs K (w18) (nrm (upd k i (del (k i) r)) y)) ((Lk (hk.put ht) hy hn2 hON h64 (λb hb=>hK b (Al hB.size hb)))) ?_;rintro vN u20⟨htN,hb21⟩;replace hB:=hB.go hb21;exact Hr 4 vN ⟨_,rfl,htN,hB⟩
theorem Zt(t:Tr):DS t:=by
 induction t with
 |no=>intro K w v a n c q B hO;exact hO.elim
 |leaf p x0=>
  intro K w v a n c q B hO h64 hnb hg ht hq hK;obtain⟨a1,n1,c1,a2,n2,c2,rfl,h1,h2,h3⟩:=ht;exact⟨_,_,_,rfl,NM _,NU⟩
 |ext p t ih=>
  intro K w v a n c q B hO h64 hnb hg ht hq hK;obtain⟨a1,n1,c1,u,rfl,h1,h2⟩:=ht;obtain⟨o1,o2,o3,o4,o5⟩:=hO;obtain⟨Tu,xu,rfl⟩:=h2.iface (λe=>by rw[e]at o4;simp[isBr]at o4);simp only[Tr.get]at hg;have hpre:q.take p.length=p:=by
   by_cases h:q.take p.length=p
   ·exact h
   ·rw[Ad h]at hg;exact absurd rfl hg
  rw[Af hpre]at hg;exact⟨_,_,_,rfl,NN _,NX h1 h2 o5 ih hq hK hnb (by omega) (by omega) hpre hg ((NK t _ _ o5 (hnb.drop _) hg).2 o4)⟩
 |br k y ih=>
  intro K w v a n c q B hO h64 hnb hg ht hq hK;obtain⟨vs,a1,n1,c1,rfl,h1,h2,h3⟩:=ht;refine⟨_,_,_,rfl,NO _,?_⟩;cases q with
  |nil=>exact NY h1 h2 h3 hK h64 hq hq.len.symm hO.1
  |cons i r=>
   obtain⟨g,o,rfl,hc,hn⟩:=hq.head;have hi:=hnb.head;obtain⟨j,rfl⟩:=Dj hi.1;have hg:Tr.get (k j) r≠[]:=hg;rcases hO.1 j with h|⟨h16,hB1,h⟩
   ·rw[h]at hg;exact absurd rfl hg
   ·obtain⟨T0,v0,e0⟩:=(h1 j h16).iface h.ne;refine My h1 h2 h3 hK h64 h16 hq hn hc (ih j) h hg hnb.tail e0 (e0▸h1 j h16) ?_;intro m;show upd k j (del (k j) r) m=no∨(m<16/\1<=B/\Ok (B-1) (upd k j (del (k j) r) m));by_cases e:m=j
    ·rw[e,Co];rcases(NK (k j) _ r h hnb.tail hg).1 with h|h
     ·exact .inl h
     ·exact .inr ⟨h16,hB1,h⟩
    ·rw[BZ k _ e];exact hO.1 m
structure Tri(K:Nat->Prop)(w:World)(g:Nat)(t:Tr):Prop where
 ex:∃v,Rw g w #[v] 67/\TA K w t v
 ok:t=no∨Ok 64 t
theorem Tri.go{t:Tr}(h:Tri K w g t)(hb:Below w.heap.size w w'):Tri K w' g t:=by
 obtain⟨⟨v,h1,h2⟩,h3⟩:=h;exact⟨⟨v,h1.go hb,h2.go hb⟩,h3⟩
theorem Tri.drew{t:Tr}(h:Tri K w g t):Tri K w.drew g t:=h.go (Ak _ _).drew
theorem Tri.noint{t:Tr}(h:Tri K w g t)(o:Nat)(kd:IntKind)(z:Int):w.cell? ⟨g,o,none⟩≠some (.int kd z):=by
 obtain⟨⟨v,h1,h2⟩,h3⟩:=h;rw[Ae _ _ _ _ _ _ h1];cases o with
 |zero=>intro e;cases e;exact h2.noint _ _ rfl
 |succ o=>simp
theorem Ie{t:Tr}{v:Value}(h:TA K w t v):NoInt #[v]:=by
 intro j u hj kd z;cases j with
 |zero=>cases hj;exact h.noint kd z
 |succ j=>simp at hj
theorem Sk.touch{t:Tr}{bs:List Int}(h:Sk K w a n c bs)(ht:Touch g w w')(hT:Tri K' w g t):Sk K w' a n c bs:=by
 refine⟨⟨?_,h.ag.nil,h.ag.l,h.ag.b⟩,h.k⟩;rcases h.ag.i with h1|⟨gb,off,h1,h2,h3,h4,h5,h7⟩
 ·exact .inl h1
 ·refine .inr ⟨gb,off,h1,h2,h3,h4,h5,λj hj=>?_⟩;have hne:gb≠g:=λe=>by
   subst e;exact hT.noint _ _ _ (h7 j hj)
  rw[<-h7 j hj];exact Aq (ht.block gb (Aj (h7 j hj)) hne)
theorem Ll{base:Nat}{bs:List Int}(h:Ni.Cut w base a n bs)(hK:∀b,base<=b->K b):Sk K w a n n bs:=
 ⟨h.ag,λx hx hn=>by obtain⟨g,off,cur,e,hg,_⟩:=h.own hn;rw[e]at hx;cases hx;exact hK _ hg⟩
theorem Lm{k:List Int}(h:∀x∈k,0<=x/\x<256):Nb (Ni.nib k):=λi hi=>by have:=Ni.nib_bd k h i hi;omega
theorem TA.len:∀{t:Tr}{v:Value},TA K w t v->∀q,Nb q->(Tr.get t q).length<=256:=by
 intro t
 induction t with
 |no=>intro v h q _;simp[Tr.get]
 |leaf p x=>
  rintro v⟨_,_,_,_,n',_,_,_,h2,h3⟩ q _;simp only[Tr.get];split
  ·rw[h2.len];exact h3
  ·simp
 |ext p t ih=>
  rintro v⟨_,_,_,u,_,_,h2⟩ q hq;simp only[Tr.get];split
  ·exact ih h2 _ (hq.drop _)
  ·simp
 |br k x ih=>
  rintro v⟨vs,_,_,_,_,h1,h2,h3⟩ q hq;cases q with
  |nil=>simp only[Tr.get];rw[h2.len];exact h3
  |cons i r=>
   have:=hq.head;simp only[Tr.get];exact ih _ (h1 i.toNat (by omega)) _ hq.tail
theorem XC(l:List Int):decide (((l.length:Nat):Int)>(0:Int))=decide (l≠[]):=by
 cases l with
 |nil=>rfl
 |cons i r=>simp
theorem Ig(hn:n<=32):
 Calls prog 28 #[.slice a n c] w λe w'=>∃u,e= .returned u/\(λu w'=>u= .bool true/\Bl w w') u w':=by
 have hB:=Bl.refl w;refine DB func28 6<|Ht 9 ((n:Int)<=(32:Int)) ?_;exact Hr 4 (.bool true) ⟨_,rfl,rfl,hB⟩
theorem Si(hn:32<n):
 Calls prog 28 #[.slice a n c] w λe w'=>∃u,e= .returned u/\(λu w'=>u= .bool false/\Bl w w') u w':=by
 have hB:=Bl.refl w;refine DB func28 6<|Hf 9 ((n:Int)<=(32:Int)) ?_;exact Hr 4 (.bool false) ⟨_,rfl,rfl,hB⟩
theorem T1(h0:0<n)(hn:n<=256):
 Calls prog 29 #[.slice a n c] w λe w'=>∃u,e= .returned u/\(λu w'=>u= .bool true/\Bl w w') u w':=by
 have hB:=Bl.refl w;refine DB func29 11<|Ht 9 ((n:Int)>(0:Int))<|Ht 3 ((n:Int)<=(256:Int)) ?_;exact Hr 5 (.bool true) ⟨_,rfl,rfl,hB⟩
theorem T4(h0:n=0):
 Calls prog 29 #[.slice a n c] w λe w'=>∃u,e= .returned u/\(λu w'=>u= .bool false/\Bl w w') u w':=by
 have hB:=Bl.refl w;refine DB func29 11<|Hf 9 ((n:Int)>(0:Int)) ?_;exact Hr 9 (.bool false) ⟨_,rfl,rfl,hB⟩
theorem T5(h0:256<n):
 Calls prog 29 #[.slice a n c] w λe w'=>∃u,e= .returned u/\(λu w'=>u= .bool false/\Bl w w') u w':=by
 have hB:=Bl.refl w;refine DB func29 11<|Ht 9 ((n:Int)>(0:Int))<|Hf 3 ((n:Int)<=(256:Int)) ?_;exact Hr 5 (.bool false) ⟨_,rfl,rfl,hB⟩
theorem Sj:
 Calls prog 15 #[] w λe w'=>∃u,e= .returned u/\(λu w'=>(∃g,u= .pointer (some ⟨g,0,none⟩)/\w.heap.size<=g/\Tri K w' g no)/\Bl w w') u w':=by
 have hB:=Bl.refl w;refine DB func15 3<|Hn 8 #[.nilIface] 67 ?_;intro w1 g2 hn3 hr4;replace hB:=hB.go hn3.below;exact Hr 4 (.pointer (some ⟨g2,0,none⟩)) ⟨_,rfl,⟨_,rfl,(by rw[hn3.hg];exact Aa _),⟨⟨_,hr4,rfl⟩, .inl rfl⟩⟩,hB⟩
theorem Zu{v:Value}{t:Tr}{k:List Int}(hr:Rw g w #[v] 67)(ht:TA K w t v)(hok:t=no∨Ok 64 t)(hk:Sk K1 w a n c k)(hn:n<=32)(hK:∀b,w.heap.size<=b->K b):
 Calls prog 22 #[.pointer (some ⟨g,0,none⟩), .slice a n c] w λe w'=>∃u,e= .returned u/\(λu w'=>(∃a2 n2 c2 b,u= .tuple #[.slice a2 n2 c2, .bool b, .int .i64 0]/\b=decide (Tr.get t (Ni.nib k)≠[])/\Sk (λb=>w.heap.size<=b) w' a2 n2 c2 (Tr.get t (Ni.nib k)))/\Bl w w') u w':=by
 have hB:=Bl.refl w;have hnb:Nb (Ni.nib k):=Lm hk.ag.b;have hkl:(Ni.nib k).length=2*n:=by rw[Ni.nib_len,hk.len]
 have hFS:t=no∨∃B,Ok B t/\FS t:=by
  rcases hok with h|h
  ·exact .inl h
  ·exact .inr ⟨_,h,Q0 t⟩
 refine DB func22 23<|Hc 11 (args:=#[.slice a n c]) (R:=λu w'=>u= .bool true/\Bl (w) w') ((Ig hn)) ?_;rintro _ u1⟨rfl,hb2⟩;replace hr:=hr.go hb2;refine GL 7 (λw=>Rw g w #[v] 67) (hr.drew) ?_;replace hr:=hr.drew;refine Dx [0] 1 (og f22 3 1) (.pointer (some ⟨g,0,none⟩)) (λv hv=>(λ_=>by kernel_rfl)) hr<|Dl [2] 3 (λv hv=>hv) 0 65 (v) hr<|Dy [4] [5] hr ?_;replace hk:=(hk.go hb2).drew;refine Yc 5 (R:=λu w'=>(∃a',u= .slice a' (2*n) (2*n)/\Ni.Cut w' (u1.drew).heap.size a' (2*n) (Ni.nib k))/\Bl (u1.drew) w') (((Ni.of_any _ _ _ k _ hk.ag (by omega)).mono (λe w' h=>by obtain⟨⟨a',e1,h1⟩,h2⟩:=h;exact⟨_,e1,⟨a',rfl,h1⟩,h2⟩))) (λu w' h=>hr.go h.2) ?_ yn;rintro _ u3⟨⟨aq,rfl,hcut⟩,hb4⟩;replace hB:=(hB.go hb2).drew;have hsq:=hB.size;have hq:Sk K u3 aq (2*n) (2*n) (Ni.nib k):=Ll hcut (λb hb=>hK b (Al hsq hb));refine Dz [6] ?_;replace ht:=((ht.go hb2).drew).go hb4;replace hr:=hr.go hb4;refine Yc 6 (R:=RS K (u3) (Tr.get t (Ni.nib k))) ((IU hFS ht hq hnb)) (λu w' h=>hr.go h.2) ?_ yn;rintro _ u5⟨⟨a3,n3,c3,rfl,hs3⟩,hb6⟩;replace hr:=hr.go hb6;refine Dq [7] hr ?_;have l3:=hs3.len;replace ht:=ht.go hb6;have l4:=ht.len _ hnb;replace hB:=(hB.go hb4).go hb6;have hsz:=hB.size;refine Hc 4 (R:=λu w'=>∃a2 n2 c2,u= .slice a2 n2 c2/\Sk (λb=>(u5).heap.size<=b) w' a2 n2 c2 (Tr.get t (Ni.nib k))/\Bl (u5) w') ((Ia hs3 (by omega))) ?_;rintro _ u7⟨a4,n4,c4,rfl,hs4,hb8⟩;refine Hp 2 (.bool (decide ((n3:Int)>(0:Int))))<|Hp 1 (.bool (decide ((n3:Int)>(0:Int)))) ?_;replace hB:=hB.go hb8;exact Hr 4 (.tuple #[.slice a4 n4 c4, .bool (decide ((n3:Int)>(0:Int))), .int .i64 0]) ⟨_,rfl,⟨_,_,_,_,rfl,(by rw[<-l3];exact XC _),hs4.mono (λb hb=>Al hsz hb)⟩,hB⟩
theorem XD{v:Value}{t:Tr}{k:List Int}(hr:Rw g w #[v] 67)(ht:TA K w t v)(hok:t=no∨Ok 64 t)(hk:Sk K1 w a n c k)(hn:n<=32){nx:Nat}(hx:Sk K0 w ax nx cx x)(hx2:nx<=256)(h0:0<nx)(hK:∀b,w.heap.size<=b->K b):
 Calls prog 11 #[.pointer (some ⟨g,0,none⟩), .slice a n c, .slice ax nx cx] w λe w'=>∃u,e= .returned u/\(λu w'=>u= .int .i64 0/\Tri K w' g (put t (Ni.nib k) x)/\Touch g w w') u w':=by
 have hB:=Bl.refl w;have hnb:Nb (Ni.nib k):=Lm hk.ag.b;have hkl:(Ni.nib k).length=2*n:=by rw[Ni.nib_len,hk.len]
 have hg0:g<w.heap.size:=lt_of_get hr;have hPF:t=no∨∃B,Ok B t/\B<=64/\(Ni.nib k).length<=B/\WS t:=by
  rcases hok with h|h
  ·exact .inl h
  ·exact .inr ⟨64,h,Aa _,by omega,Zr t⟩
 refine DB func11 27<|Hc 10 (args:=#[.slice a n c]) (R:=λu w'=>u= .bool true/\Bl (w) w') ((Ig hn)) ?_;rintro _ u1⟨rfl,hb2⟩;refine Hc 8 (args:=#[.slice ax nx cx]) (R:=λu w'=>u= .bool true/\Bl (u1) w') ((T1 h0 hx2)) ?_;rintro _ u3⟨rfl,hb4⟩;refine GL 9 (λ_=>True) (trivial)<|Dx [0,1] 2 (og f11 5 2) (.pointer (some ⟨g,0,none⟩)) (λv hv=>(λ_=>by kernel_rfl)) trivial<|Dy [3,5,7] [4,6] trivial ?_;replace hr:=((hr.go hb2).go hb4).drew;refine Yx 4 (og f11 5 4) v (λ_=>AF 65 _ ⟨g,0,none⟩ _ _ rfl (by kernel_rfl) (by rw[Ae _ _ _ _ _ _ hr];rfl) underlying65 rfl) trivial ?_ ?_
 ·skip
  refine Dz [6] ?_;replace hk:=((hk.go hb2).go hb4).drew;refine Yc 6 (R:=λu w'=>(∃a',u= .slice a' (2*n) (2*n)/\Ni.Cut w' (u3.drew).heap.size a' (2*n) (Ni.nib k))/\Bl (u3.drew) w') (((Ni.of_any _ _ _ k _ hk.ag (by omega)).mono (λe w' h=>by obtain⟨⟨a',e1,h1⟩,h2⟩:=h;exact⟨_,e1,⟨a',rfl,h1⟩,h2⟩))) (λu w' h=>trivial) ?_ yn;rintro _ u5⟨⟨aq,rfl,hcut⟩,hb6⟩;replace hB:=((hB.go hb2).go hb4).drew;have hsq:=hB.size;have hq:Sk K u5 aq (2*n) (2*n) (Ni.nib k):=Ll hcut (λb hb=>hK b (Al hsq hb));refine Dz [8] ?_;replace hx:=(((hx.go hb2).go hb4).drew).go hb6;refine Yc 8 (R:=λu w'=>∃a2 n2 c2,u= .slice a2 n2 c2/\Sk (λb=>(u5).heap.size<=b) w' a2 n2 c2 x/\Bl (u5) w') ((Ia hx (by omega))) (λu w' h=>trivial) ?_ yn;rintro _ u7⟨a4,n4,c4,rfl,hs4,hb8⟩;replace hB:=hB.go hb6;have hsz4:=hB.size;replace hs4:Sk K u7 a4 n4 c4 x:=hs4.mono (λb hb=>hK b (Al hsz4 hb));refine Dz [9] ?_;replace ht:=((((ht.go hb2).go hb4).drew).go hb6).go hb8;replace hB:=hB.go hb8;replace hx:=hx.go hb8;replace hq:=hq.go hb8;refine Yc 9 (R:=TRs K (u7) (put t (Ni.nib k) x)) ((FW hPF ht hq hnb hs4 (by have e1:=hs4.len;have e2:=hx.len;omega) (λb hb=>hK b (Al hB.size hb)))) (λu w' h=>trivial) ?_ yn;rintro vR u9⟨htR,hb10⟩;refine Dx [] 10 (og f11 5 10) (.pointer (some ⟨g,0,none⟩)) (λv hv=>(λ_=>by kernel_rfl)) trivial<|Dy [11] [12] trivial ?_;replace hr:=((hr.go hb6).go hb8).go hb10;refine Ya 12 (og f11 5 12) g 0 vR (λ_=>BO 65 _ _ g 0 _ 67 _ hr rfl (by kernel_rfl) (by kernel_rfl) (by show 0<1;omega) htR.cells htR.one (by kernel_rfl)) (λw' h=>trivial) ?_ yn;intro w11 hp12;replace ht:=ht.go hb10;have hbs:=Bs.of hr (Ie ht) hp12;replace hB:=hB.go hb10;have htch:=(Touch.of_below (g:=g) hB).trans hp12.touch;replace hx:=hx.go hb10;have hTR:Tri K w11 g (put t (Ni.nib k) x):=⟨⟨vR,hr.set hp12 rfl,htR.bs hbs⟩, .inr (NJ t 64 _ _ hok hnb (by omega) (by intro e;have:=hx.len;rw[e,Ch]at this;omega))⟩;refine Do ?_;exact Hr 7 (.int .i64 0) ⟨_,rfl,rfl,hTR,htch⟩
 replace hk:=((hk.go hb2).go hb4).drew;refine Yc 6 (R:=λu w'=>(∃a',u= .slice a' (2*n) (2*n)/\Ni.Cut w' (u3.drew).heap.size a' (2*n) (Ni.nib k))/\Bl (u3.drew) w') (((Ni.of_any _ _ _ k _ hk.ag (by omega)).mono (λe w' h=>by obtain⟨⟨a',e1,h1⟩,h2⟩:=h;exact⟨_,e1,⟨a',rfl,h1⟩,h2⟩))) (λu w' h=>trivial) ?_ yn;rintro _ u13⟨⟨aq,rfl,hcut⟩,hb14⟩;replace hB:=((hB.go hb2).go hb4).drew;have hsq:=hB.size;have hq:Sk K u13 aq (2*n) (2*n) (Ni.nib k):=Ll hcut (λb hb=>hK b (Al hsq hb));refine Dz [4,8] ?_;replace hr:=hr.go hb14;refine Yx 4 (og f11 5 4) v (λ_=>AF 65 _ ⟨g,0,none⟩ _ _ rfl (by kernel_rfl) (by rw[Ae _ _ _ _ _ _ hr];rfl) underlying65 rfl) trivial ?_ ?_
 ·skip
  refine Dz [8] ?_;replace hx:=(((hx.go hb2).go hb4).drew).go hb14;refine Yc 8 (R:=λu w'=>∃a2 n2 c2,u= .slice a2 n2 c2/\Sk (λb=>(u13).heap.size<=b) w' a2 n2 c2 x/\Bl (u13) w') ((Ia hx (by omega))) (λu w' h=>trivial) ?_ yn;rintro _ u15⟨a4,n4,c4,rfl,hs4,hb16⟩;replace hB:=hB.go hb14;have hsz4:=hB.size;replace hs4:Sk K u15 a4 n4 c4 x:=hs4.mono (λb hb=>hK b (Al hsz4 hb));refine Dz [9] ?_;replace ht:=((((ht.go hb2).go hb4).drew).go hb14).go hb16;replace hB:=hB.go hb16;replace hx:=hx.go hb16;replace hq:=hq.go hb16;refine Yc 9 (R:=TRs K (u15) (put t (Ni.nib k) x)) ((FW hPF ht hq hnb hs4 (by have e1:=hs4.len;have e2:=hx.len;omega) (λb hb=>hK b (Al hB.size hb)))) (λu w' h=>trivial) ?_ yn;rintro vR u17⟨htR,hb18⟩;refine Dx [] 10 (og f11 5 10) (.pointer (some ⟨g,0,none⟩)) (λv hv=>(λ_=>by kernel_rfl)) trivial<|Dy [11] [12] trivial ?_;replace hr:=(hr.go hb16).go hb18;refine Ya 12 (og f11 5 12) g 0 vR (λ_=>BO 65 _ _ g 0 _ 67 _ hr rfl (by kernel_rfl) (by kernel_rfl) (by show 0<1;omega) htR.cells htR.one (by kernel_rfl)) (λw' h=>trivial) ?_ yn;intro w19 hp20;replace ht:=ht.go hb18;have hbs:=Bs.of hr (Ie ht) hp20;replace hB:=hB.go hb18;have htch:=(Touch.of_below (g:=g) hB).trans hp20.touch;replace hx:=hx.go hb18;have hTR:Tri K w19 g (put t (Ni.nib k) x):=⟨⟨vR,hr.set hp20 rfl,htR.bs hbs⟩, .inr (NJ t 64 _ _ hok hnb (by omega) (by intro e;have:=hx.len;rw[e,Ch]at this;omega))⟩;refine Do ?_;exact Hr 7 (.int .i64 0) ⟨_,rfl,rfl,hTR,htch⟩
 replace hx:=(((hx.go hb2).go hb4).drew).go hb14;refine Yc 8 (R:=λu w'=>∃a2 n2 c2,u= .slice a2 n2 c2/\Sk (λb=>(u13).heap.size<=b) w' a2 n2 c2 x/\Bl (u13) w') ((Ia hx (by omega))) (λu w' h=>trivial) ?_ yn;rintro _ u21⟨a4,n4,c4,rfl,hs4,hb22⟩;replace hB:=hB.go hb14;have hsz4:=hB.size;replace hs4:Sk K u21 a4 n4 c4 x:=hs4.mono (λb hb=>hK b (Al hsz4 hb));refine Dz [4] ?_;replace hr:=hr.go hb22;refine Yx 4 (og f11 5 4) v (λ_=>AF 65 _ ⟨g,0,none⟩ _ _ rfl (by kernel_rfl) (by rw[Ae _ _ _ _ _ _ hr];rfl) underlying65 rfl) trivial ?_ yn;refine Dz [9] ?_;replace ht:=((((ht.go hb2).go hb4).drew).go hb14).go hb22;replace hB:=hB.go hb22;replace hx:=hx.go hb22;replace hq:=hq.go hb22;refine Yc 9 (R:=TRs K (u21) (put t (Ni.nib k) x)) ((FW hPF ht hq hnb hs4 (by have e1:=hs4.len;have e2:=hx.len;omega) (λb hb=>hK b (Al hB.size hb)))) (λu w' h=>trivial) ?_ yn;rintro vR u23⟨htR,hb24⟩;refine Dx [] 10 (og f11 5 10) (.pointer (some ⟨g,0,none⟩)) (λv hv=>(λ_=>by kernel_rfl)) trivial<|Dy [11] [12] trivial ?_;replace hr:=hr.go hb24;refine Ya 12 (og f11 5 12) g 0 vR (λ_=>BO 65 _ _ g 0 _ 67 _ hr rfl (by kernel_rfl) (by kernel_rfl) (by show 0<1;omega) htR.cells htR.one (by kernel_rfl)) (λw' h=>trivial) ?_ yn;intro w25 hp26;replace ht:=ht.go hb24;have hbs:=Bs.of hr (Ie ht) hp26;replace hB:=hB.go hb24;have htch:=(Touch.of_below (g:=g) hB).trans hp26.touch;replace hx:=hx.go hb24;have hTR:Tri K w25 g (put t (Ni.nib k) x):=⟨⟨vR,hr.set hp26 rfl,htR.bs hbs⟩, .inr (NJ t 64 _ _ hok hnb (by omega) (by intro e;have:=hx.len;rw[e,Ch]at this;omega))⟩;refine Do ?_;exact Hr 7 (.int .i64 0) ⟨_,rfl,rfl,hTR,htch⟩
theorem XE{k:List Int}{nx:Nat}(hk:Sk K w a n c k)(hx:Sk K0 w ax nx cx x)(hn:n<=32)(h0:nx=0):
 Calls prog 11 #[.pointer (some ⟨g,0,none⟩), .slice a n c, .slice ax nx cx] w λe w'=>∃u,e= .returned u/\(λu w'=>u= .int .i64 71/\Bl w w') u w':=by
 have hB:=Bl.refl w;refine DB func11 27<|Hc 10 (args:=#[.slice a n c]) (R:=λu w'=>u= .bool true/\Bl (w) w') ((Ig hn)) ?_;rintro _ u1⟨rfl,hb2⟩;refine Hc 8 (args:=#[.slice ax nx cx]) (R:=λu w'=>u= .bool false/\Bl (u1) w') ((T4 h0)) ?_;rintro _ u3⟨rfl,hb4⟩;replace hB:=(hB.go hb2).go hb4;exact Hr 13 (.int .i64 71) ⟨_,rfl,rfl,hB⟩
theorem XF{k:List Int}{nx:Nat}(hk:Sk K w a n c k)(hx:Sk K0 w ax nx cx x)(hn:n<=32)(h0:256<nx):
 Calls prog 11 #[.pointer (some ⟨g,0,none⟩), .slice a n c, .slice ax nx cx] w λe w'=>∃u,e= .returned u/\(λu w'=>u= .int .i64 71/\Bl w w') u w':=by
 have hB:=Bl.refl w;refine DB func11 27<|Hc 10 (args:=#[.slice a n c]) (R:=λu w'=>u= .bool true/\Bl (w) w') ((Ig hn)) ?_;rintro _ u1⟨rfl,hb2⟩;refine Hc 8 (args:=#[.slice ax nx cx]) (R:=λu w'=>u= .bool false/\Bl (u1) w') ((T5 h0)) ?_;rintro _ u3⟨rfl,hb4⟩;replace hB:=(hB.go hb2).go hb4;exact Hr 13 (.int .i64 71) ⟨_,rfl,rfl,hB⟩
theorem Zv{k:List Int}{nx:Nat}(hk:Sk K w a n c k)(hx:Sk K0 w ax nx cx x)(hn:32<n):
 Calls prog 11 #[.pointer (some ⟨g,0,none⟩), .slice a n c, .slice ax nx cx] w λe w'=>∃u,e= .returned u/\(λu w'=>u= .int .i64 70/\Bl w w') u w':=by
 have hB:=Bl.refl w;refine DB func11 27<|Hc 10 (args:=#[.slice a n c]) (R:=λu w'=>u= .bool false/\Bl (w) w') ((Si hn)) ?_;rintro _ u1⟨rfl,hb2⟩;replace hB:=hB.go hb2;exact Hr 13 (.int .i64 70) ⟨_,rfl,rfl,hB⟩
theorem Vr{k:List Int}(hk:Sk K w a n c k)(hn:32<n):
 Calls prog 12 #[.pointer (some ⟨g,0,none⟩), .slice a n c] w λe w'=>∃u,e= .returned u/\(λu w'=>u= .tuple #[.bool false, .int .i64 70]/\Bl w w') u w':=by
 have hB:=Bl.refl w;refine DB func12 29<|Hc 10 (args:=#[.slice a n c]) (R:=λu w'=>u= .bool false/\Bl (w) w') ((Si hn)) ?_;rintro _ u1⟨rfl,hb2⟩;replace hB:=hB.go hb2;exact Hr 12 (.tuple #[.bool false, .int .i64 70]) ⟨_,rfl,rfl,hB⟩
theorem OS{v:Value}{t:Tr}{k:List Int}(hr:Rw g w #[v] 67)(ht:TA K w t v)(hok:t=no∨Ok 64 t)(hk:Sk K1 w a n c k)(hn:n<=32)(hK:∀b,w.heap.size<=b->K b)(hget:Tr.get t (Ni.nib k)=[]):
 Calls prog 12 #[.pointer (some ⟨g,0,none⟩), .slice a n c] w λe w'=>∃u,e= .returned u/\(λu w'=>u= .tuple #[.bool false, .int .i64 0]/\Bl w w') u w':=by
 have hB:=Bl.refl w;have hnb:Nb (Ni.nib k):=Lm hk.ag.b;have hkl:(Ni.nib k).length=2*n:=by rw[Ni.nib_len,hk.len]
 have hFS:t=no∨∃B,Ok B t/\FS t:=by
  rcases hok with h|h
  ·exact .inl h
  ·exact .inr ⟨_,h,Q0 t⟩
 refine DB func12 29<|Hc 10 (args:=#[.slice a n c]) (R:=λu w'=>u= .bool true/\Bl (w) w') ((Ig hn)) ?_;rintro _ u1⟨rfl,hb2⟩;replace hk:=hk.go hb2;refine Hc 9 (R:=λu w'=>(∃a',u= .slice a' (2*n) (2*n)/\Ni.Cut w' (u1).heap.size a' (2*n) (Ni.nib k))/\Bl (u1) w') (((Ni.of_any _ _ _ k _ hk.ag (by omega)).mono (λe w' h=>by obtain⟨⟨a',e1,h1⟩,h2⟩:=h;exact⟨_,e1,⟨a',rfl,h1⟩,h2⟩))) ?_;rintro _ u3⟨⟨aq,rfl,hcut⟩,hb4⟩;replace hB:=hB.go hb2;have hsq:=hB.size;have hq:Sk K u3 aq (2*n) (2*n) (Ni.nib k):=Ll hcut (λb hb=>hK b (Al hsq hb));replace hr:=(hr.go hb2).go hb4;refine Hl 9 hr 0 65 (v) ?_;replace ht:=(ht.go hb2).go hb4;refine Hc 1 (R:=RS K (u3) (Tr.get t (Ni.nib k))) ((IU hFS ht hq hnb)) ?_;rintro _ u5⟨⟨a3,n3,c3,rfl,hs3⟩,hb6⟩;refine Hb 1 ((n3:Int)==(0:Int)) true (DM.2 (by have:=hs3.len;rw[hget,Ch]at this;omega)) ?_;replace hB:=(hB.go hb4).go hb6;exact Hr 11 (.tuple #[.bool false, .int .i64 0]) ⟨_,rfl,rfl,hB⟩
theorem Kh{v:Value}{t:Tr}{k:List Int}(hr:Rw g w #[v] 67)(ht:TA K w t v)(hok:t=no∨Ok 64 t)(hk:Sk K1 w a n c k)(hn:n<=32)(hK:∀b,w.heap.size<=b->K b)(hget:Tr.get t (Ni.nib k)≠[]):
 Calls prog 12 #[.pointer (some ⟨g,0,none⟩), .slice a n c] w λe w'=>∃u,e= .returned u/\(λu w'=>u= .tuple #[.bool true, .int .i64 0]/\Tri K w' g (del t (Ni.nib k))/\Touch g w w') u w':=by
 have hB:=Bl.refl w;have hnb:Nb (Ni.nib k):=Lm hk.ag.b;have hkl:(Ni.nib k).length=2*n:=by rw[Ni.nib_len,hk.len]
 have hFS:t=no∨∃B,Ok B t/\FS t:=by
  rcases hok with h|h
  ·exact .inl h
  ·exact .inr ⟨_,h,Q0 t⟩
 have hO:Ok 64 t:=by
  rcases hok with h|h
  ·rw[h]at hget;exact absurd rfl hget
  ·exact h
 obtain⟨T0,v0,rfl⟩:=ht.iface hO.ne;refine DB func12 29<|Hc 10 (args:=#[.slice a n c]) (R:=λu w'=>u= .bool true/\Bl (w) w') ((Ig hn)) ?_;rintro _ u1⟨rfl,hb2⟩;replace hk:=hk.go hb2;refine Hc 9 (R:=λu w'=>(∃a',u= .slice a' (2*n) (2*n)/\Ni.Cut w' (u1).heap.size a' (2*n) (Ni.nib k))/\Bl (u1) w') (((Ni.of_any _ _ _ k _ hk.ag (by omega)).mono (λe w' h=>by obtain⟨⟨a',e1,h1⟩,h2⟩:=h;exact⟨_,e1,⟨a',rfl,h1⟩,h2⟩))) ?_;rintro _ u3⟨⟨aq,rfl,hcut⟩,hb4⟩;replace hB:=hB.go hb2;have hsq:=hB.size;have hq:Sk K u3 aq (2*n) (2*n) (Ni.nib k):=Ll hcut (λb hb=>hK b (Al hsq hb));replace hr:=(hr.go hb2).go hb4;refine Hl 9 hr 0 65 (.iface T0 v0) ?_;replace ht:=(ht.go hb2).go hb4;refine Hc 1 (R:=RS K (u3) (Tr.get t (Ni.nib k))) ((IU hFS ht hq hnb)) ?_;rintro _ u5⟨⟨a3,n3,c3,rfl,hs3⟩,hb6⟩;refine Hb 1 ((n3:Int)==(0:Int)) false (BB.2 (by have:=hs3.len;have:=BC.2 hget;omega)) ?_;replace hr:=hr.go hb6;refine Hl 11 hr 0 65 (.iface T0 v0) ?_;replace hB:=(hB.go hb4).go hb6;replace ht:=ht.go hb6;replace hq:=hq.go hb6;obtain⟨T11,x12,f13,he14,hi9,hc10⟩:=(Zt t hO (by omega) hnb hget ht hq (λb hb=>hK b (Al hB.size hb)));refine Hm 1 (og f12 6 6) f13 (#[x12]++#[.slice aq (2*n) (2*n)]) (λ_=>hi9 _ _ _ _ _ _ _ rfl (by kernel_rfl) (by kernel_rfl)) (R:=TRs K (u5) (del t (Ni.nib k))) ?_ ?_
 ·exact hc10
 rintro vR u7⟨htR,hb8⟩;replace hr:=hr.go hb8;refine Ha 2 (og f12 6 9) g 0 vR (λ_=>BO 65 _ _ g 0 _ 67 _ hr rfl (by kernel_rfl) (by kernel_rfl) (by show 0<1;omega) htR.cells htR.one (by kernel_rfl)) ?_;intro w15 hp16;replace ht:=ht.go hb8;have hbs:=Bs.of hr (Ie ht) hp16;replace hB:=hB.go hb8;have htch:=(Touch.of_below (g:=g) hB).trans hp16.touch;have hTR:Tri K w15 g (del t (Ni.nib k)):=⟨⟨vR,hr.set hp16 rfl,htR.bs hbs⟩,(NK t 64 _ hO hnb hget).1⟩;exact Hr 9 (.tuple #[.bool true, .int .i64 0]) ⟨_,rfl,rfl,hTR,htch⟩
end Go.Proofs.YtalhnnjpjaeakaaGreat
