/- What a proof says of a key: plain; a node, a name and a row of byte strings in memory. -/
import Derived.Test.YtefhepcplempkaaGreatAK
import Derived.Test.YtefhepcplempkaaGreatG12
import Derived.Test.YtefhepcplempkaaGreatG13
import Derived.Test.YtefhepcplempkaaGreatG14
import Derived.ScopeJumps
import Derived.Test.YtefhepcplempkaaGreatG01
import Derived.Test.YtefhepcplempkaaGreatG10
import Derived.Test.YtefhepcplempkaaGreatG00
import Derived.Test.YtefhepcplempkaaGreatG11
set_option linter.unusedVariables false
set_option maxRecDepth 100000
set_option maxHeartbeats 8000000
open Go.Proofs.Tryz Go.RowKit
namespace Go.Proofs.YtefhepcplempkaaGreat
open Tr
open Di (dref)
variable {fn : Func} {p q r : Tmp} {u : Value}
def opP(r:PR)(l:List (List Int)):Option (PN×List (List Int)):=
 if r.k=2 then(match l with
  |[]=>none
  |b::l'=>if dref b=r.d then(ND b).map λn=>(n,l')else none)
 else(ND r.i).map λn=>(n,l)
def kidP(n:PN)(p:List Int):PR:=n.ks.getD (p.getD 0 0).toNat r0
def foP(n:PN)(p:List Int):Option (PR×List Int):=
 if n.k=3/\0<p.length then(if(kidP n p).k=0 then none else some (kidP n p,p.drop 1))
 else if n.k=2/\p.take n.p.length=n.p then some (n.c,p.drop n.p.length)else none
def vaP(n:PN)(p:List Int):List Int:=if n.p=p then n.v else[]
def veP:Nat->PR->List Int->List (List Int)->Bool->Option (List Int)
 |0,_,_,_,_=>none
 |f+1,r,p,l,ex=>match opP r l with
  |none=>none
  |some (n,l')=>if ex=true/\n.k≠3 then none else match foP n p with
   |some (r',p')=>veP f r' p' l' (decide (n.k=2))
   |none=>if l'=[]then some (vaP n p)else none
theorem X2{ρ:Operand->Value}{w:World}{x y:Operand}{o:Oper}{ds es:List Int}(ho:o.op= .binOp .neq 35 x y 35)(hx:ρ x= .agg (B8 ds))(hy:ρ y= .agg (B8 es))(h1:ds.length=32)(h2:es.length=32):(execOp ρ o).run prog w= .ok (.value (.bool (!(ds==es)))) w:=by
 have e:=ZB ds es h1 h2 w;unfold execOp;rw[ho];simp only[hx,hy];go_simp
theorem X3{ρ:Operand->Value}{w:World}{o:Oper}{a:Option Addr}{n c:Nat}(f:Nat)(x y:Operand)(ho:o.op= .slice 28 x (some y) none none)(hx:ρ x= .slice a n c){i:Int}(hy:ρ y= .int .i64 i)(hi:i=f)(hf:f<=n):(execOp ρ o).run prog w= .ok (.value (.slice (if c=f then a else a.map (·.add (f*1))) (n-f) (c-f))) w:=by
 subst hi;unfold execOp;rw[ho];simp[hx,hy,Instr.sliceAt,BE underlying28,Instr.slice,Instr.sliceBounds,Instr.sliceBound,asIntOf,hf,Result.andThen]
theorem Q9{f:Nat->Value}(h:fn.results=#[.cell p 68, .tmp q, .tmp r])(w:World)(g:Nat)(y:NV)(hl:y.c.d.length=32)(hp:f p= .pointer (some ⟨g,0,none⟩)){v:Value}(hq:f q=u)(hr:f r=v)(hg:Rw g w y.cells.toArray 68):(resF f fn.results).run prog w= .ok (.tuple #[.agg y.cells.toArray,u,v]) w:=by
 have:=C9 (P:=prog) w g 68 68 _ _ _ hg underlying68 rfl (by rw[E7,Db hl]);unfold resF;rw[h];simp[hp,hq,hr,this,asAddr]
theorem QA{f:Nat->Value}(h:fn.results=#[.cell p 65, .tmp q, .tmp r])(w:World)(g:Nat)(y:RV)(hl:y.d.length=32)(hp:f p= .pointer (some ⟨g,0,none⟩)){v:Value}(hq:f q=u)(hr:f r=v)(hg:Rw g w y.cells.toArray 65):(resF f fn.results).run prog w= .ok (.tuple #[.agg y.cells.toArray,u,v]) w:=by
 have:=C9 (P:=prog) w g 65 65 _ _ _ hg underlying65 rfl (by rw[DF,Bd,RV.len hl]);unfold resF;rw[h];simp[hp,hq,hr,this,asAddr]
section
variable {m : Nat} {P : Program} {ds : List Deferred} {n : Nat} {Q : Exit → Act → World → Prop} {env : Env} {w : World}
theorem VK{c B:Code}{X:Type}(l:Nat)(E:X->Env)(R:X->World->Prop)(μ:X->Nat)(hf:findLabel c l=some (.seq .skip B))
 (first:∀Q',(∀x v,R x v->CW none m P ds n Q' B (E x) v)->CW none m P ds n Q' c env w)
 (pass:∀x v,R x v->CW none m P ds n (Exit.jump l (λa' w'=>∃x',μ x'<μ x/\Frm ds n (E x') a'/\R x' w') Q) B (E x) v):CW none m P ds n Q (.scope c) env w:=λa ha=>by
 refine wpIn_wide.2 ?_;have hB:∀x v a,Frm ds n (E x) a->R x v->(Code.seq .skip B).wp P (Exit.jump l (λa' w'=>∃x',μ x'<μ x/\Frm ds n (E x') a'/\R x' w') Q) a v:=λx v a hF hR=>wp_seq (wp_skip (wpIn_wide.1 (pass x v hR a hF)))
 have hm:∀{J J':Act->World->Prop}{Q:Exit->Act->World->Prop}{c:Code}{a w},(∀a w,J a w->J' a w)->c.wp P (Exit.jump l J Q) a w->c.wp P (Exit.jump l J' Q) a w:=λhj h=>wp_mono h (λe a w hq=>by
  cases e with
  |goto l'=>exact⟨hq.1,hj _ _ hq.2⟩
  |_=>exact hq)
 refine wp_scope_jumps l (λa w=>∃k x,μ x=k/\Frm ds n (E x) a/\R x w) (λa w=>leastOf (λk=>∃x,μ x=k/\Frm ds n (E x) a/\R x w)) hf ?_ ?_
 ·exact wpIn_wide.1 (first _ (λx v hR a hF=>wpIn_wide.2 (hm (λa w⟨x',_,h1,h2⟩=>⟨_,x',rfl,h1,h2⟩) (wpIn_wide.1 (pass x v hR a hF)))) a ha)
 ·intro a w hJ;obtain⟨x,hx,hF,hR⟩:=(leastOf_spec (p:=λk=>∃x,μ x=k/\Frm ds n (E x) a/\R x w) hJ).1;refine hm ?_ (hB x w a hF hR);rintro a' w'⟨x',hlt,h1,h2⟩;exact⟨⟨_,x',rfl,h1,h2⟩,Nat.lt_of_le_of_lt ((leastOf_spec (p:=λk=>∃x,μ x=k/\Frm ds n (E x) a'/\R x w') ⟨_,x',rfl,h1,h2⟩).2 _ ⟨x',rfl,h1,h2⟩) (by rw[<-hx];exact hlt)⟩
theorem Pp{l:Nat}{J:Act->World->Prop}(h:NW ds n Q .ret env w):NW ds n (Exit.jump l J Q) .ret env w:=h
end
def OpR(w:World)(ai:Option Addr)(ni:Nat)(Mi:List (List Int))(o:Option (PN×List (List Int))):Value->World->Prop:=λu w'=>(∃(z:NV)(a:Option Addr)(n c:Nat),u= .tuple #[.agg z.cells.toArray, .slice a n c, .bool o.isSome]/\z.c.d.length=32/\∀N M,o=some (N,M)->NodeAt (Own w.heap.size w') w' z N/\(∀K0 w0,Bt K0 w0 ai ni Mi->Bt K0 w0 a n M)/\n<=c)/\Bl w w'
def FoR(K:Nat->Prop)(w:World)(o:Option (PR×List Int)):Value->World->Prop:=λu w'=>(∃(y:RV)(a:Option Addr)(n c:Nat),u= .tuple #[.agg y.cells.toArray, .slice a n c, .bool o.isSome]/\y.d.length=32/\∀r p,o=some (r,p)->RefAt K w' y r/\Sk K w' a n c p)/\Bl w w'
end Go.Proofs.YtefhepcplempkaaGreat
namespace Go.Proofs.YtefhepcplempkaaGreat
open Tr
open Di (dref)
variable {K : Nat → Prop} {w : World} {a : Option Addr} {n c : Nat} {p : List Int}
theorem Fy{P:Program}{ρ:Operand->Value}{w:World}{o:Oper}{kd:IntKind}(T:TypeId)(x y:Operand)(g off j mm c sz:Nat)(E:TypeId)(ho:o.op= .indexAddr T x y)(hx:ρ x= .slice (some ⟨g,off,none⟩) mm c){i:Int}(hy:ρ y= .int kd i)(hi':i=(j:Nat))(hj:j<mm)(hu:P.underlying T=some (.slice E))(hi:(P.info? E).map (·.size)=some sz):
 (execOp ρ o).run P w= .ok (.value (.pointer (some ⟨g,off+j*sz,none⟩))) w:=by
 subst hi';have hs:(sizeOf E).run P w= .ok sz w:=by
  cases hq:P.info? E with
  |none=>simp[hq]at hi
  |some z=>simp[hq]at hi;simp[sizeOf,typeInfo,hq,hi]
 unfold execOp;rw[ho];simp only[hx,hy];have he:(if j*sz=0 then(⟨g,off,none⟩:Addr)else⟨g,off+j*sz,none⟩)=⟨g,off+j*sz,none⟩:=by split<;>simp_all
 simp[Instr.indexAt,asIntOf,BE hu,hs,hj,Result.andThen,Addr.add,he]
theorem AgK.sk{bs:List Int}(h:AgK K w a n c bs):Sk K w a n c bs:=⟨h.1,λx hx h0=>by
 obtain⟨g,off,e,_⟩:=ag_head h.1 h0;rw[e]at hx;cases hx;exact h.2.2 g off e h0⟩
theorem QB:(rz:RV).d.length=32:=rfl
theorem Pq{K':Nat->Prop}{z:NV}{N:PN}(hz:NodeAt K w z N)(hp:Sk K' w a n c p):
 Calls prog 70 #[.agg z.cells.toArray, .slice a n c] w λe w'=>∃u,e= .returned u/\(λu w'=>∃a' n' c',u= .slice a' n' c'/\Sk K w' a' n' c' (vaP N p)/\Bl w w') u w':=by
 have hB:=Bl.refl w;have hzl:=hz.c.len;have hz0:=hz;have hzp:=hz0.p.sk;refine EO func70 12<|Hn 2 z.cells.toArray 68 ?_;intro w1 gN hnN hN1;refine Hx 7 (og f70 1 1) (.slice z.pa z.pn z.pc) (λ_=>AA 23 _ ⟨gN,1,none⟩ _ _ rfl (by kernel_rfl) (by rw[Ad _ _ _ _ _ _ hN1];exact KE z) underlying23 rfl) ?_;replace hp:=hp.go hnN.below;replace hzp:=hzp.go hnN.below;refine Hc 1 (R:=λu w'=>u= .bool (decide (N.p=p))/\Bl (w1) w') ((ME hzp hp)) ?_;rintro _ u1⟨rfl,hb2⟩;refine Hp 0 (.bool (!(decide (N.p=p)))) ?_;by_cases hpp:N.p=p
 ·skip
  rw[show(!decide (N.p=p))=false from by simp[hpp]];replace hN1:=hN1.go hb2;refine Hx 8 (og f70 3 1) (.slice z.va z.vn z.vc) (λ_=>AA 23 _ ⟨gN,2,none⟩ _ _ rfl (by kernel_rfl) (by rw[Ad _ _ _ _ _ _ hN1];exact Z3 z) underlying23 rfl) ?_;replace hB:=(hB.go hnN.below).go hb2;exact Hr 4 (.slice z.va z.vn z.vc) ⟨_,rfl,z.va,z.vn,z.vc,rfl,by rw[vaP,Ai hpp];exact hz0.v.sk.go hB,hB⟩
 ·skip
  rw[show(!decide (N.p=p))=true from by simp[hpp]];replace hB:=(hB.go hnN.below).go hb2;exact Hr 10 (.slice none 0 0) ⟨_,rfl,none,0,0,rfl,by rw[vaP,Ae hpp];exact Sk.nil _ _,hB⟩
def VbR(w:World)(o:Option (List Int)):Value->World->Prop:=λu w'=>(∃(a:Option Addr)(n c:Nat),u= .tuple #[.slice a n c, .bool o.isSome]/\(o=none->a=none/\n=0/\c=0)/\∀v,o=some v->Sk (Own w.heap.size w') w' a n c v)/\Bl w w'
abbrev SlX:=(Option Addr×Nat×Nat)×(Option Addr×Nat×Nat)×Bool
structure VbI(w:World)(gR:Nat)(K:Nat->Prop)(A:Option (List Int))(x:SlX)(v:World):Prop where
 r:∃(y:RV)(r:PR)(p:List Int)(M:List (List Int))(f:Nat),Rw gR v y.cells.toArray 65/\RefAt (λb=>b≠gR) v y r/\Sk (λb=>b≠gR) v x.1.1 x.1.2.1 x.1.2.2 p/\Nb p/\Bt K w x.2.1.1 x.2.1.2.1 M/\x.2.1.2.1<=x.2.1.2.2/\(∀b∈M,b.length<=140737488351232)/\x.1.2.1<f/\veP f r p M x.2.2=A
 b:Bl w v
 g:w.heap.size<=gR
theorem Nb.drop(h:Nb p)(k:Nat):Nb (p.drop k):=λi hi=>h i (BF hi)
def vfP(d k:List Int)(M:List (List Int)):Int×List Int:=
 if 32<k.length then(70,[])else if M=[]/\d=dref [128]then(0,[])else
  match veP (2*k.length+1) ⟨2,d,[]⟩ (Ni.nib k) M false with
  |none=>(90,[])
  |some v=>(0,v)
def VfR(w:World)(o:Int×List Int):Value->World->Prop:=λu w'=>(∃(a:Option Addr)(n c:Nat),u= .tuple #[.slice a n c, .bool (decide (0<n)), .int .i64 o.1]/\Sk (Own w.heap.size w') w' a n c o.2)/\Bl w w'
theorem Cut.skb{base:Nat}{bs:List Int}(h:Ni.Cut w base a n bs):Sk (λb=>base<=b/\b<w.heap.size) w a n n bs:=⟨h.ag,λx hx hn=>by
 obtain⟨g,off,cur,e1,e2,e3⟩:=h.own hn;rw[e1]at hx;cases hx;exact⟨e2,lt_of_get e3⟩⟩
theorem isKey_any:
 Calls prog 26 #[.slice a n c] w λe w'=>∃u,e= .returned u/\(λu w'=>u= .bool (decide ((n:Int)<=(32:Int)))/\Bl w w') u w':=by
 have hB:=Bl.refl w;refine EO func26 6<|Hp 9 (.bool (decide ((n:Int)<=(32:Int))))<|Hp 0 (.bool (decide ((n:Int)<=(32:Int)))) ?_;exact Hr 3 (.bool (decide ((n:Int)<=(32:Int)))) ⟨_,rfl,rfl,hB⟩
end Go.Proofs.YtefhepcplempkaaGreat
namespace Go.Proofs.YtefhepcplempkaaGreat
open Tr
def nbE(e:List Int×List Int):List Int×List Int:=(Ni.nib e.1,e.2)
def EnR(w:World)(L:PList):Value->World->Prop:=λu w'=>(∃a c vs,u= .slice a L.length c/\PAt (λ_=>True) w' a L.length c vs (L.map nbE))/\Bl w w'
theorem KF{K:Nat->Prop}{w:World}{g:Nat}{t:Tr}(hT:Tri K w g t)(hLk:∀e∈entsF [] t,e.1.length<=32)(hLn:(entsF [] t).length<=2932031007390):
 Calls prog 27 #[.pointer (some ⟨g,0,none⟩)] w λe w'=>∃u,e= .returned u/\EnR w (entsF [] t) u w':=by
 have hB:=Bl.refl w;refine SH func27 rfl 18 rfl ?_;show CW _ _ _ _ _ _ _ [(0, .pointer (some ⟨g,0,none⟩))] _;have hTl:=hT.lt;have hTo:=hT.old;refine A5<|Ao<|rp 2 (.slice none 0 0)<|AK<|Av<|A5<|Ao<|E5 3 #[.slice none 0 0] 55 (λ_=>by kernel_rfl) (λ_=>by kernel_rfl) ?_;intro w6 gL hn6;have hgL:=hn6.hg;replace hB:=hB.go hn6.below;have hL:Rw gL w6 #[.slice none 0 0] 55:=hn6.row;have hTk:Tri (λb=>b≠gL) w6 g t:=(hTo.go hn6.below).mono (λb hb=>by have:b<_:=hb;omega);have hgne:g≠gL:=by omega
 refine AK<|Av<|A5<|A5<|Ao<|rp 6 (.pointer (some ⟨g,0,none⟩))<|BH 7 53 #[.pointer (some ⟨g,0,none⟩)] (λ_=>by kernel_rfl) (λ_=>by kernel_rfl) (R:=λu w'=>(∃gB,u= .func (.func 76) #[] #[.pointer (some ⟨gB,0,none⟩)]/\Rw gB w' #[.pointer (some ⟨g,0,none⟩)] 25/\w6.heap.size<=gB)/\Bl w6 w') (Xv (g:=g)) ?_;rintro _ w7⟨⟨gB,rfl,hgB,hzB⟩,hb7⟩;replace hB:=hB.go hb7;replace hL:=hL.go hb7;replace hTk:=hTk.go hb7;refine AK<|Av<|Ea<|Um [(3, .pointer (some ⟨gL,0,none⟩)),(7, .func (.func 76) #[] #[.pointer (some ⟨gB,0,none⟩)])] (by exact⟨λ_=>by kernel_rfl,⟨λ_=>by kernel_rfl,trivial⟩⟩) ?_;have hlL:=lt_of_get hL;obtain⟨⟨vT,hrT,htT⟩,hok⟩:=id hTk;obtain⟨L,hents⟩:∃L,entsF [] t=L:=⟨_,rfl⟩;rw[hents]at hLk hLn⊢;refine T1 76 #[.pointer (some ⟨gB,0,none⟩)] (λ_=>by kernel_rfl) (by decide) (by decide) (by decide) (λargs w=>by kernel_rfl) (U:=λb=>b=gL) (L:=L) (λlp J Wq hbq V hJ0=>(Vy V (hgB.go hbq) hJ0 (Aa _) (hrT.go hbq) (htT.go hbq) hok (λb hb hu=>hb hu) (by rw[hents];exact List.prefix_rfl)).mono (λe W'⟨u,e1,h⟩=>⟨u,e1,by rw[<-hents];exact h.resolve_right id⟩)) (λb hu=>by have e:b=gL:=hu;omega) (λpre=>EnI w w7 gL (pre.map nbE)) (λs W W' row h=>EnI.own hB.size (s.map nbE) W W' row h) ⟨hB,⟨_,hL,OwnE.none (λb hb=>by omega),SlB.nil _⟩,λ_ _ _ _ _ hh=>hh,Aa _⟩ (λu v e=>e=[(3, .pointer (some ⟨gL,0,none⟩)),(4,u),(5,v)]) ?_ ?_ ?_
 ·intro lp u v W;refine A5<|Ao<|rp 4 (u)<|AK<|Av<|Ao<|rp 5 (v)<|AK ?_;exact λa ha=>⟨rfl,_,ha.sub (env':=[(3, .pointer (some ⟨gL,0,none⟩)),(4,u),(5,v)]) (by exact⟨λ_=>by kernel_rfl,⟨λ_=>by kernel_rfl,⟨λ_=>by kernel_rfl,trivial⟩⟩⟩),rfl⟩
 ·intro lp pre W M a1 a2 n1 c1 n2 c2 k x e hlp hrec hIv hpre hM1 hM2 hs1 hs2 he;subst he;obtain⟨hB,⟨v,hL,hO,hS⟩,hkp,hsz⟩:=hIv;have hlen:(pre.map nbE).length+1<=L.length:=by obtain⟨sf,hsf⟩:=hpre;rw[<-hsf];simp
  have hlL2:=lt_of_get hL;have hkl:k.length<=32:=hLk (k,x) (by obtain⟨sf,hsf⟩:=hpre;rw[<-hsf];simp);have hk1:=hs1.len;have hL0:=hL;have hO0:=hO;have hS0:=hS;have hWW:=Bl.refl W;refine Ea<|Uu (λv=>True) (by kernel_rfl) (by kernel_rfl) (λ⟨_,_,h⟩=>h) (trivial) ?_;replace hs1:=hs1.drew;replace hs2:=hs2.drew;replace hL:=hL.drew;replace hWW:=hWW.drew;refine dt 1 11 (.slice a1 n1 c1) (λv hv _=>by kernel_rfl) trivial<|dt 3 13 (.slice a2 n2 c2) (λv hv _=>by kernel_rfl) trivial<|CI [0,2] (by kernel_rfl) (by simp) ?_;refine PO 0 10 v rfl (λ_=>by kernel_rfl) (λ_=>AA 55 _ ⟨gL,0,none⟩ _ _ rfl (by kernel_rfl) (by rw[Ad _ _ _ _ _ _ hL];rfl) underlying55 rfl) trivial ?_ ?_
  ·skip
   refine CI [2] (by kernel_rfl) (by simp) ?_;refine Gp 2 12 28 #[.slice a1 n1 c1] rfl (λ_=>by kernel_rfl) (λ_=>by kernel_rfl) (R:=λu w'=>(∃a',u= .slice a' (2*n1) (2*n1)/\Ni.Cut w' (W.drew).heap.size a' (2*n1) (Ni.nib k))/\Bl (W.drew) w') (((Ni.of_any a1 n1 c1 k (W.drew) hs1.ag (by omega)).mono (λe w'⟨⟨a',e1,e2⟩,e3⟩=>⟨_,e1,⟨a',rfl,e2⟩,e3⟩))) (λ_ _ _=>trivial) ?_ DR;rintro _ u3⟨⟨a3,rfl,hc3⟩,hb3⟩;have hz3:=hWW.size;replace hs1:=hs1.go hb3;replace hs2:=hs2.go hb3;replace hL:=hL.go hb3;replace hWW:=hWW.go hb3;have hp3:=Cut.skb hc3;refine dt 4 14 (.agg #[.slice a3 (2*n1) (2*n1), .slice a2 n2 c2]) (λv hv=>(λ_=>by kernel_rfl)) trivial<|CI [5] (by kernel_rfl) (by simp) ?_;refine NA 5 15 #[.slice a3 (2*n1) (2*n1), .slice a2 n2 c2] 95 1 rfl (λ_=>by kernel_rfl) (λ_=>by kernel_rfl) (λ_ _ _=>trivial) ?_ DR;intro W1 gN hnN;have hOw:=hO0.far hWW;have hSw:=hS0.go hWW (λk hk=>(hO0.own k hk).2);have hP1:=PAt.oneE (K:=λb=>w7.heap.size<=b/\v.ownBlock≠some b) hnN ((hp3.nsl hSw).mono (λb hb=>⟨by have:=hb.1.1;omega,hb.2⟩)) ((hs2.nsl hSw).mono (λb hb=>⟨by have:=hb.1;omega,hb.2⟩)) ⟨by rw[hnN.hg];have:=hWW.size;omega,λe=>by have:=(hOw.own gN e).2;have:=hnN.hg;omega⟩;have hO1:=hOw.far hnN.below;have hS1:=hSw.go hnN.below (λk hk=>(hOw.own k hk).2);replace hs1:=hs1.go hnN.below;replace hs2:=hs2.go hnN.below;replace hL:=hL.go hnN.below;replace hWW:=hWW.go hnN.below;refine CI [6] (by kernel_rfl) (by simp) ?_;obtain⟨v2,W2,hr2,hO2,hS2,hb2_,hk2,hv2⟩:=V7 hO1 hS1 hP1 (λb hb=>⟨hb.2,by have:=hb.1;omega⟩) (by omega) (by have:=hWW.size;omega);refine PO 6 16 v2 rfl (λ_=>by kernel_rfl) (λ_=>Gr hr2 _ _ rfl (by kernel_rfl) (by kernel_rfl)) trivial ?_ DR;have hLo:v.ownBlock≠some gL:=λe=>by have:=(hO0.own gL e).1;omega
   have hL2:Rw gL W2 #[v] 55:=(hk2 gL (lt_of_get hL) hLo).trans hL;refine CI [7] (by kernel_rfl) (by simp) ?_;refine KS 7 gL 0 v2 rfl (λ_=>by kernel_rfl) (λ_=>D8 55 _ _ gL 0 _ 55 _ hL2 rfl (by kernel_rfl) (by kernel_rfl) (by show 0<1;omega) hO2.cel hO2.one (by kernel_rfl)) (λ_ _=>trivial) ?_ DR;intro W3 hs3;refine Fg (by kernel_rfl)<|El ?_;have hz3:W3.heap.size=W2.heap.size:=hs3.size;have hz2:W1.heap.size<=W2.heap.size:=EA hb2_;have hz1:W.heap.size<=W1.heap.size:=hWW.size;have hkk:∀(k:Nat)(cs:Array Value)(T:TypeId)(fr:Nat×Nat),k≠gL->Pr cs->W.heap[k]?=some (Obj.cells cs T fr)->W3.heap[k]?=some (Obj.cells cs T fr):=λk cs T fr hk hP hh=>((hs3.other hk).trans ((hk2 k (B7 (lt_of_get hh) hz1) (λe=>Oe (hS0 k cs T fr e hh) hP)).trans (C8 hWW k (lt_of_get hh)))).trans hh;have hko:∀(k:Nat)(o:Obj),k≠gL->v.ownBlock≠some k->W.heap[k]?=some o->W3.heap[k]?=some o:=λk o hk he hh=>((hs3.other hk).trans ((hk2 k (B7 (lt_of_get hh) hz1) he).trans (C8 hWW k (lt_of_get hh)))).trans hh;have hnc:∀(k:Nat)(o:Obj),W.heap[k]?=some o->o.isCells=false->v.ownBlock≠some k:=λk o hh hc e=>by obtain⟨cs,hcs⟩:=hO0.row k e;rw[hcs]at hh;cases hh;cases hc
   have hL3:Rw gL W3 #[v2] 55:=hL2.set hs3 rfl;have hne2:∀k,v2.ownBlock=some k->k≠gL:=λk hk e=>by have:=(hO2.own k hk).1;omega
   have hO3:OwnE (λb=>b≠gL) W3 w7.heap.size v2 (pre.map nbE++[(Ni.nib k,x)]):=hO2.tou hs3.touch (by omega);have hS3:SlB W3 v2:=λk cur T fr hk hh=>hS2 k cur T fr hk ((hs3.other (hne2 k hk)).symm.trans hh);refine PQ ⟨by omega,λq o hq ho hc=>hko q o (by omega) (hnc q o ho hc) ho⟩ ⟨by omega,λq cs T fr _ hU hP hh=>hkk q cs T fr hU hP hh⟩ ⟨?_,⟨v2,hL3,by rw[BB];exact hO3,hS3⟩,λq cs T fr hq hh=>?_,by omega⟩
   ·refine Ce hB ⟨?_,?_,?_,by omega,λq hq=>?_⟩
    ·rw[hs3.touch.os,Below.os hb2_,Below.os hWW]
    ·rw[hs3.touch.tape,EX hb2_,EX hWW]
    ·rw[hs3.touch.output,Ek hb2_,Ek hWW]
    ·exact(hs3.other (by omega)).trans ((C8 hb2_ q (by omega)).trans (C8 hWW q (by have:=EA hB;omega)))
   ·exact hko q _ hq (λe=>by have:=(hO0.own q e).1;have:=lt_of_get hh;omega) (hkp q cs T fr hq hh)
  refine Gp 2 12 28 #[.slice a1 n1 c1] rfl (λ_=>by kernel_rfl) (λ_=>by kernel_rfl) (R:=λu w'=>(∃a',u= .slice a' (2*n1) (2*n1)/\Ni.Cut w' (W.drew).heap.size a' (2*n1) (Ni.nib k))/\Bl (W.drew) w') (((Ni.of_any a1 n1 c1 k (W.drew) hs1.ag (by omega)).mono (λe w'⟨⟨a',e1,e2⟩,e3⟩=>⟨_,e1,⟨a',rfl,e2⟩,e3⟩))) (λ_ _ _=>trivial) ?_ DR;rintro _ u3⟨⟨a3,rfl,hc3⟩,hb3⟩;have hz3:=hWW.size;replace hs1:=hs1.go hb3;replace hs2:=hs2.go hb3;replace hL:=hL.go hb3;replace hWW:=hWW.go hb3;have hp3:=Cut.skb hc3;refine dt 4 14 (.agg #[.slice a3 (2*n1) (2*n1), .slice a2 n2 c2]) (λv hv=>(λ_=>by kernel_rfl)) trivial<|CI [0,5] (by kernel_rfl) (by simp) ?_;refine PO 0 10 v rfl (λ_=>by kernel_rfl) (λ_=>AA 55 _ ⟨gL,0,none⟩ _ _ rfl (by kernel_rfl) (by rw[Ad _ _ _ _ _ _ hL];rfl) underlying55 rfl) trivial ?_ ?_
  ·skip
   refine CI [5] (by kernel_rfl) (by simp) ?_;refine NA 5 15 #[.slice a3 (2*n1) (2*n1), .slice a2 n2 c2] 95 1 rfl (λ_=>by kernel_rfl) (λ_=>by kernel_rfl) (λ_ _ _=>trivial) ?_ DR;intro W1 gN hnN;have hOw:=hO0.far hWW;have hSw:=hS0.go hWW (λk hk=>(hO0.own k hk).2);have hP1:=PAt.oneE (K:=λb=>w7.heap.size<=b/\v.ownBlock≠some b) hnN ((hp3.nsl hSw).mono (λb hb=>⟨by have:=hb.1.1;omega,hb.2⟩)) ((hs2.nsl hSw).mono (λb hb=>⟨by have:=hb.1;omega,hb.2⟩)) ⟨by rw[hnN.hg];have:=hWW.size;omega,λe=>by have:=(hOw.own gN e).2;have:=hnN.hg;omega⟩;have hO1:=hOw.far hnN.below;have hS1:=hSw.go hnN.below (λk hk=>(hOw.own k hk).2);replace hs1:=hs1.go hnN.below;replace hs2:=hs2.go hnN.below;replace hL:=hL.go hnN.below;replace hWW:=hWW.go hnN.below;refine CI [6] (by kernel_rfl) (by simp) ?_;obtain⟨v2,W2,hr2,hO2,hS2,hb2_,hk2,hv2⟩:=V7 hO1 hS1 hP1 (λb hb=>⟨hb.2,by have:=hb.1;omega⟩) (by omega) (by have:=hWW.size;omega);refine PO 6 16 v2 rfl (λ_=>by kernel_rfl) (λ_=>Gr hr2 _ _ rfl (by kernel_rfl) (by kernel_rfl)) trivial ?_ DR;have hLo:v.ownBlock≠some gL:=λe=>by have:=(hO0.own gL e).1;omega
   have hL2:Rw gL W2 #[v] 55:=(hk2 gL (lt_of_get hL) hLo).trans hL;refine CI [7] (by kernel_rfl) (by simp) ?_;refine KS 7 gL 0 v2 rfl (λ_=>by kernel_rfl) (λ_=>D8 55 _ _ gL 0 _ 55 _ hL2 rfl (by kernel_rfl) (by kernel_rfl) (by show 0<1;omega) hO2.cel hO2.one (by kernel_rfl)) (λ_ _=>trivial) ?_ DR;intro W3 hs3;refine Fg (by kernel_rfl)<|El ?_;have hz3:W3.heap.size=W2.heap.size:=hs3.size;have hz2:W1.heap.size<=W2.heap.size:=EA hb2_;have hz1:W.heap.size<=W1.heap.size:=hWW.size;have hkk:∀(k:Nat)(cs:Array Value)(T:TypeId)(fr:Nat×Nat),k≠gL->Pr cs->W.heap[k]?=some (Obj.cells cs T fr)->W3.heap[k]?=some (Obj.cells cs T fr):=λk cs T fr hk hP hh=>((hs3.other hk).trans ((hk2 k (B7 (lt_of_get hh) hz1) (λe=>Oe (hS0 k cs T fr e hh) hP)).trans (C8 hWW k (lt_of_get hh)))).trans hh;have hko:∀(k:Nat)(o:Obj),k≠gL->v.ownBlock≠some k->W.heap[k]?=some o->W3.heap[k]?=some o:=λk o hk he hh=>((hs3.other hk).trans ((hk2 k (B7 (lt_of_get hh) hz1) he).trans (C8 hWW k (lt_of_get hh)))).trans hh;have hnc:∀(k:Nat)(o:Obj),W.heap[k]?=some o->o.isCells=false->v.ownBlock≠some k:=λk o hh hc e=>by obtain⟨cs,hcs⟩:=hO0.row k e;rw[hcs]at hh;cases hh;cases hc
   have hL3:Rw gL W3 #[v2] 55:=hL2.set hs3 rfl;have hne2:∀k,v2.ownBlock=some k->k≠gL:=λk hk e=>by have:=(hO2.own k hk).1;omega
   have hO3:OwnE (λb=>b≠gL) W3 w7.heap.size v2 (pre.map nbE++[(Ni.nib k,x)]):=hO2.tou hs3.touch (by omega);have hS3:SlB W3 v2:=λk cur T fr hk hh=>hS2 k cur T fr hk ((hs3.other (hne2 k hk)).symm.trans hh);refine PQ ⟨by omega,λq o hq ho hc=>hko q o (by omega) (hnc q o ho hc) ho⟩ ⟨by omega,λq cs T fr _ hU hP hh=>hkk q cs T fr hU hP hh⟩ ⟨?_,⟨v2,hL3,by rw[BB];exact hO3,hS3⟩,λq cs T fr hq hh=>?_,by omega⟩
   ·refine Ce hB ⟨?_,?_,?_,by omega,λq hq=>?_⟩
    ·rw[hs3.touch.os,Below.os hb2_,Below.os hWW]
    ·rw[hs3.touch.tape,EX hb2_,EX hWW]
    ·rw[hs3.touch.output,Ek hb2_,Ek hWW]
    ·exact(hs3.other (by omega)).trans ((C8 hb2_ q (by omega)).trans (C8 hWW q (by have:=EA hB;omega)))
   ·exact hko q _ hq (λe=>by have:=(hO0.own q e).1;have:=lt_of_get hh;omega) (hkp q cs T fr hq hh)
  refine NA 5 15 #[.slice a3 (2*n1) (2*n1), .slice a2 n2 c2] 95 1 rfl (λ_=>by kernel_rfl) (λ_=>by kernel_rfl) (λ_ _ _=>trivial) ?_ DR;intro W1 gN hnN;have hOw:=hO0.far hWW;have hSw:=hS0.go hWW (λk hk=>(hO0.own k hk).2);have hP1:=PAt.oneE (K:=λb=>w7.heap.size<=b/\v.ownBlock≠some b) hnN ((hp3.nsl hSw).mono (λb hb=>⟨by have:=hb.1.1;omega,hb.2⟩)) ((hs2.nsl hSw).mono (λb hb=>⟨by have:=hb.1;omega,hb.2⟩)) ⟨by rw[hnN.hg];have:=hWW.size;omega,λe=>by have:=(hOw.own gN e).2;have:=hnN.hg;omega⟩;have hO1:=hOw.far hnN.below;have hS1:=hSw.go hnN.below (λk hk=>(hOw.own k hk).2);replace hs1:=hs1.go hnN.below;replace hs2:=hs2.go hnN.below;replace hL:=hL.go hnN.below;replace hWW:=hWW.go hnN.below;refine CI [0] (by kernel_rfl) (by simp) ?_;refine PO 0 10 v rfl (λ_=>by kernel_rfl) (λ_=>AA 55 _ ⟨gL,0,none⟩ _ _ rfl (by kernel_rfl) (by rw[Ad _ _ _ _ _ _ hL];rfl) underlying55 rfl) trivial ?_ DR;refine CI [6] (by kernel_rfl) (by simp) ?_;obtain⟨v2,W2,hr2,hO2,hS2,hb2_,hk2,hv2⟩:=V7 hO1 hS1 hP1 (λb hb=>⟨hb.2,by have:=hb.1;omega⟩) (by omega) (by have:=hWW.size;omega);refine PO 6 16 v2 rfl (λ_=>by kernel_rfl) (λ_=>Gr hr2 _ _ rfl (by kernel_rfl) (by kernel_rfl)) trivial ?_ DR;have hLo:v.ownBlock≠some gL:=λe=>by have:=(hO0.own gL e).1;omega
  have hL2:Rw gL W2 #[v] 55:=(hk2 gL (lt_of_get hL) hLo).trans hL;refine CI [7] (by kernel_rfl) (by simp) ?_;refine KS 7 gL 0 v2 rfl (λ_=>by kernel_rfl) (λ_=>D8 55 _ _ gL 0 _ 55 _ hL2 rfl (by kernel_rfl) (by kernel_rfl) (by show 0<1;omega) hO2.cel hO2.one (by kernel_rfl)) (λ_ _=>trivial) ?_ DR;intro W3 hs3;refine Fg (by kernel_rfl)<|El ?_;have hz3:W3.heap.size=W2.heap.size:=hs3.size;have hz2:W1.heap.size<=W2.heap.size:=EA hb2_;have hz1:W.heap.size<=W1.heap.size:=hWW.size;have hkk:∀(k:Nat)(cs:Array Value)(T:TypeId)(fr:Nat×Nat),k≠gL->Pr cs->W.heap[k]?=some (Obj.cells cs T fr)->W3.heap[k]?=some (Obj.cells cs T fr):=λk cs T fr hk hP hh=>((hs3.other hk).trans ((hk2 k (B7 (lt_of_get hh) hz1) (λe=>Oe (hS0 k cs T fr e hh) hP)).trans (C8 hWW k (lt_of_get hh)))).trans hh;have hko:∀(k:Nat)(o:Obj),k≠gL->v.ownBlock≠some k->W.heap[k]?=some o->W3.heap[k]?=some o:=λk o hk he hh=>((hs3.other hk).trans ((hk2 k (B7 (lt_of_get hh) hz1) he).trans (C8 hWW k (lt_of_get hh)))).trans hh;have hnc:∀(k:Nat)(o:Obj),W.heap[k]?=some o->o.isCells=false->v.ownBlock≠some k:=λk o hh hc e=>by obtain⟨cs,hcs⟩:=hO0.row k e;rw[hcs]at hh;cases hh;cases hc
  have hL3:Rw gL W3 #[v2] 55:=hL2.set hs3 rfl;have hne2:∀k,v2.ownBlock=some k->k≠gL:=λk hk e=>by have:=(hO2.own k hk).1;omega
  have hO3:OwnE (λb=>b≠gL) W3 w7.heap.size v2 (pre.map nbE++[(Ni.nib k,x)]):=hO2.tou hs3.touch (by omega);have hS3:SlB W3 v2:=λk cur T fr hk hh=>hS2 k cur T fr hk ((hs3.other (hne2 k hk)).symm.trans hh);refine PQ ⟨by omega,λq o hq ho hc=>hko q o (by omega) (hnc q o ho hc) ho⟩ ⟨by omega,λq cs T fr _ hU hP hh=>hkk q cs T fr hU hP hh⟩ ⟨?_,⟨v2,hL3,by rw[BB];exact hO3,hS3⟩,λq cs T fr hq hh=>?_,by omega⟩
  ·refine Ce hB ⟨?_,?_,?_,by omega,λq hq=>?_⟩
   ·rw[hs3.touch.os,Below.os hb2_,Below.os hWW]
   ·rw[hs3.touch.tape,EX hb2_,EX hWW]
   ·rw[hs3.touch.output,Ek hb2_,Ek hWW]
   ·exact(hs3.other (by omega)).trans ((C8 hb2_ q (by omega)).trans (C8 hWW q (by have:=EA hB;omega)))
  ·exact hko q _ hq (λe=>by have:=(hO0.own q e).1;have:=lt_of_get hh;omega) (hkp q cs T fr hq hh)
 intro D W hD hIv hdd;have hB7:=hB;obtain⟨hB,⟨v,hL,hO,hS⟩,hkp,hsz⟩:=hIv;obtain⟨aV,cV,vsV,rfl,_⟩:=OwnE.pat hO;rw[AZ]at hL;refine El<|Av<|A5<|Ao<|rv 17 (.slice aV L.length cV) (λ_=>AA 55 _ ⟨gL,0,none⟩ _ _ rfl (by kernel_rfl) (by rw[Ad _ _ _ _ _ _ hL];rfl) underlying55 rfl)<|rp 2 (.slice aV L.length cV)<|AK<|Av<|D7 ?_;have hO':=hO.cells (w':=W.putObj D (.deferred none)) (by simp) (λk cs T fr hh=>(Dw (λe=>by subst e;rw[hdd]at hh;cases hh)).trans hh);obtain⟨a',c',vs',e',hPt⟩:=OwnE.pat hO';cases e';rw[AZ]at hPt;exact N2 hdd (.slice aV L.length cV) (λ_=>by kernel_rfl) ⟨_,rfl,⟨aV,cV,vs',rfl,hPt.mono (λ_ _=>trivial)⟩,Below.grown hB (grownBy_putObj' _ _ _) hB.size (λk e=>by cases e;exact Ar hB7.size hD)⟩
end Go.Proofs.YtefhepcplempkaaGreat
namespace Go.Proofs.YtefhepcplempkaaGreat
open Tr
variable {K X Z : Nat → Prop} {w w' : World} {a : Option Addr} {n c g gW base gK j gB gN : Nat} {k : Nat → Tr} {vs : Nat → Value} {vN vN' vM : Value} {y : RV} {ys : Nat → RV} {x : List Int}
theorem Ps(b k:Nat)(hk:k≠b):∀(vs:List Value)(o:Nat)(w:World),(w.setCells b o vs).heap[k]?=w.heap[k]?
 |[],_,_=>rfl
 |v::r,o,w=>(Ps b k hk r (o+1) _).trans (AC _ _ _ _ hk)
theorem Sn(b:Nat):∀(vs:List Value)(o:Nat)(w:World),(w.setCells b o vs).os=w.os/\(w.setCells b o vs).tape=w.tape/\(w.setCells b o vs).output=w.output/\(w.setCells b o vs).heap.size=w.heap.size
 |[],_,_=>⟨rfl,rfl,rfl,rfl⟩
 |v::r,o,w=>by
  obtain⟨h1,h2,h3,h4⟩:=Sn b r (o+1) (w.setCell ⟨b,o,none⟩ v);exact⟨h1,h2,h3,h4.trans (by simp)⟩
theorem VL(b:Nat)(t:TypeId):∀(vs:List Value)(o:Nat)(w:World)(cur:Array Value),w.heap[b]?=some (.cells cur t (0,0))->∃cur':Array Value,(w.setCells b o vs).heap[b]?=some (.cells cur' t (0,0))/\cur'.size=cur.size
 |[],_,_,cur,h=>⟨cur,h,rfl⟩
 |v::r,o,w,cur,h=>by
  obtain⟨c',h1,h2⟩:=VL b t r (o+1) (w.setCell ⟨b,o,none⟩ v) _ (AX w b o cur t v h);exact⟨c',h1,by rw[h2];simp⟩
structure St(w w':World)(g:Nat):Prop where
 other:∀k,k≠g->w'.heap[k]?=w.heap[k]?
 os:w'.os=w.os
 tape:w'.tape=w.tape
 output:w'.output=w.output
 size:w'.heap.size=w.heap.size
theorem St.of(w:World)(g o:Nat)(vs:List Value):St w (w.setCells g o vs) g:=by
 obtain⟨h1,h2,h3,h4⟩:=Sn g vs o w;exact⟨λk hk=>Ps g k hk vs o w,h1,h2,h3,h4⟩
theorem Sk.st{bs:List Int}(h:Sk K w a n c bs)(hp:St w w' g)(hK:∀b,K b->b≠g):Sk K w' a n c bs:=by
 refine⟨⟨?_,h.ag.nil,h.ag.l,h.ag.b⟩,h.k⟩;rcases h.ag.i with h1|⟨gb,off,h1,h2,h3,h4,h5,h7⟩
 ·exact .inl h1
 ·exact .inr ⟨gb,off,h1,h2,h3,h4,h5,λj hj=>(Ay (show w'.heap[gb]?=w.heap[gb]? from hp.other gb (hK gb (h.k _ h1 h3)))).trans (h7 j hj)⟩
theorem TA.st(hp:St w w' g)(hK:∀b,K b->b≠g):∀{t:Tr}{v:Value},TA K w t v->TA K w' t v:=by
 intro t
 induction t with
 |no=>intro v h;exact h
 |leaf p x=>rintro v⟨a,n,c,a',n',c',h1,h2,h3,h4⟩;exact⟨a,n,c,a',n',c',h1,h2.st hp hK,h3.st hp hK,h4⟩
 |ext p t ih=>rintro v⟨a,n,c,u,h1,h2,h3⟩;exact⟨a,n,c,u,h1,h2.st hp hK,ih h3⟩
 |br k x ih=>rintro v⟨vs,a,n,c,h1,h2,h3,h4⟩;exact⟨vs,a,n,c,h1,λi hi=>ih i (h2 i hi),h3.st hp hK,h4⟩
theorem TK.st(h:TK K w k vs)(hp:St w w' g)(hK:∀b,K b->b≠g):TK K w' k vs:=λi hi=>(h i hi).st hp hK
theorem TA.aged:∀{t:Tr}{v:Value},TA (KW gW vN X) w t v->TA (KW gW vN (λb=>b<w.heap.size)) w t v:=by
 intro t
 induction t with
 |no=>intro v h;exact h
 |leaf p x=>rintro v⟨a,n,c,a',n',c',h1,h2,h3,h4⟩;exact⟨a,n,c,a',n',c',h1,h2.aged,h3.aged,h4⟩
 |ext p t ih=>rintro v⟨a,n,c,u,h1,h2,h3⟩;exact⟨a,n,c,u,h1,h2.aged,ih h3⟩
 |br k x ih=>rintro v⟨vs,a,n,c,h1,h2,h3,h4⟩;exact⟨vs,a,n,c,h1,λi hi=>ih i (h2 i hi),h3.aged,h4⟩
theorem TK.aged(h:TK (KW gW vN X) w k vs):TK (KW gW vN (λb=>b<w.heap.size)) w k vs:=λi hi=>(h i hi).aged
theorem Rf.st{r:PR}(h:Rf K w y r)(hp:St w w' g)(hK:∀b,K b->b≠g):Rf K w' y r:=⟨h.at'.go (λb hb _=>⟨hp.other b (hK b hb),hb⟩)⟩
theorem Rw.st{g':Nat}{cells:Array Value}{T:TypeId}(h:Rw g w cells T)(hp:St w w' g')(hne:g≠g'):Rw g w' cells T:=(hp.other g hne).trans h
theorem Wt.st{ns:List (List Int)}{old:Array Value}{T:TypeId}(h:Wt w gW base vN X ns)(hr:w.heap[g]?=some (.cells old T (0,0)))(h1:T≠23)(h2:T≠80)(hX:∀b,X b->b≠g)(hp:St w w' g):Wt w' gW base vN X ns:=by
 obtain⟨vals,⟨q1,ho⟩,hv⟩:=h.o;have hne:gW≠g:=by
  rintro rfl;have:=h.r;rw[Rw,hr]at this;simp at this;exact h2 this.2
 refine⟨(hp.other _ hne).trans h.r,⟨vals,⟨q1,?_⟩,hv.1,λj u hu=>?_⟩,h.b⟩
 case refine_2=>
  obtain⟨a,n,c,e,hs,hw⟩:=hv.2 j u hu;exact⟨a,n,c,e,hs.st hp (λb hb=>hX b hb.2.2),hw.at hs (λb hK _=>hp.other b (hX b hK.2.2))⟩
 rcases ho with q|⟨g',cap,cur,e1,e2,e3,e4⟩
 ·exact .inl q
 ·refine .inr ⟨g',cap,cur,e1,e2,(hp.other _ ?_).trans e3,e4⟩;rintro rfl;rw[hr]at e3;simp at e3;exact h1 e3.2
theorem Wg.st{v v':World}(h:Wg w v gW vN vN')(hp:St v v' g)(hg:w.heap.size<=g):Wg w v' gW vN vN':=
 ⟨hp.os.trans h.os,hp.tape.trans h.tape,hp.output.trans h.output,by rw[hp.size];exact h.size,λk hk h1 h2=>(hp.other k (by omega)).trans (h.block k hk h1 h2),h.own⟩
def kz:Array Value:=(Array.range 544).map (λx=>rz.cells.toArray[x%34]!)
def updR(ys:Nat->RV)(i:Nat)(y:RV):Nat->RV:=λj=>if j=i then y else ys j
structure Kr(gK:Nat)(w:World)(ys:Nat->RV):Prop where
 row:∃cur:Array Value,w.heap[gK]?=some (.cells cur 65 (0,0))/\cur.size=544
 rng:∀i,i<16->w.rangeAt gK (0+i*34) (ys i).cells
 ln:∀i,(ys i).d.length=32
theorem Kr.same(h:Kr gK w ys)(e:w'.heap[gK]?=w.heap[gK]?):Kr gK w' ys:=by
 obtain⟨cur,h1,h2⟩:=h.row;exact⟨⟨cur,e.trans h1,h2⟩,λi hi m v hv=>(Ay (show w'.heap[gK]?=w.heap[gK]? from e)).trans (h.rng i hi m v hv),h.ln⟩
theorem Kr.go(h:Kr gK w ys)(hb:Below w.heap.size w w'):Kr gK w' ys:=by
 obtain⟨cur,h1,h2⟩:=h.row;exact h.same (hb.block gK (lt_of_get h1))
theorem Kr.wg{ns:List (List Int)}(h:Kr gK w ys)(hg:Wg w w' gW vN vN')(hw:Wt w gW base vN X ns):Kr gK w' ys:=by
 obtain⟨cur,h1,h2⟩:=h.row;exact h.same ((hg.row hw h1 (by decide) (by decide)).trans h1.symm)
theorem Kr.lt(h:Kr gK w ys):gK<w.heap.size:=by
 obtain⟨cur,h1,h2⟩:=h.row;exact lt_of_get h1
theorem Kr.there(h:Kr gK w ys)(hj:j<16):w.there gK (0+j*34) 34:=by
 obtain⟨cur,h1,h2⟩:=h.row;intro m hm;refine⟨?_,AY _ _ _ _ _ h1⟩;rw[Ad _ _ _ _ _ _ h1,EN (by omega)];rfl
theorem Kr.put(h:Kr gK w ys)(hj:j<16)(hy:y.d.length=32):Kr gK (w.setCells gK (0+j*34) y.cells) (updR ys j y):=by
 have ht:=h.there hj;obtain⟨cur,h1,h2⟩:=h.row;obtain⟨cur',h3,h4⟩:=VL gK 65 y.cells (0+j*34) w cur h1;refine⟨⟨cur',h3,h4.trans h2⟩,λi hi=>?_,λi=>?_⟩
 ·unfold updR;by_cases e:i=j
  ·rw[Ai e,e];exact World.rangeAt_setCells_same w gK (0+j*34) y.cells (by rw[RV.len hy];exact ht)
  ·rw[Ae e];refine World.rangeAt_setCells_apart (h.rng i hi) gK (0+j*34) y.cells (.inr ?_);rw[RV.len (h.ln i),RV.len hy];omega
 ·unfold updR;split
  ·exact hy
  ·exact h.ln i
theorem Kr.new(h:New w w' gK kz 65):Kr gK w' (λ_=>rz):=by
 refine⟨⟨kz,h.row,by simp[kz]⟩,λi hi m v hv=>?_,λ_=>rfl⟩;have hm:m<34:=by have:=(Aw.1 hv).1;rw[RV.len (x:=rz) rfl]at this;exact this
 rw[Ad _ _ _ _ _ _ h.row];unfold kz;rw[Array.getElem?_map,EN (by rw[Array.size_range];omega)];rw[Array.getElem_range,CA];rw[show(0+i*34+m)%34=m from by omega];rw[<-hv,getElem!_pos _ _ (by rw[Bd,RV.len (x:=rz) rfl];exact hm)];simp
theorem Ke{ρ:Operand->Value}{w:World}{o:Oper}(x z:Operand){gK j:Nat}{ys:Nat->RV}{y:RV}(h:Kr gK w ys)(hj:j<16)(hy:y.d.length=32)(ho:o.op= .store 65 x z)(hx:ρ x= .pointer (some ⟨gK,0+j*34,none⟩))(hz:ρ z= .agg y.cells.toArray):
 (execOp ρ o).run prog w= .ok .skip (w.setCells gK (0+j*34) y.cells):=by
 have:=run_storeAt_mid (P:=prog) w gK (0+j*34) 65 y.cells.toArray (by rw[CJ hy];exact h.there hj) (by rw[DF,CJ hy]) (Fj y);unfold execOp;simp only[ho,hx,hz,B9,this,Ba,BA]
def rP(k:Nat->Tr)(i:Nat):PR:=if(k i).isNo then r0 else referP (encT (k i))
def nmK(k:Nat->Tr)(i:Nat):List (List Int):=if(k i).isNo then[]else nmd (k i)++nm1 (encT (k i))
def nmJ(k:Nat->Tr)(j:Nat):List (List Int):=(List.range j).flatMap (nmK k)
theorem JH(k:Nat->Tr)(j:Nat):nmJ k (j+1)=nmJ k j++nmK k j:=by simp[nmJ,List.range_succ,List.flatMap_append]
theorem Pt(k:Nat->Tr)(i:Nat):∀d,(nmJ k i).length<=(nmJ k (i+d)).length
 |0=>Aa _
 |d+1=>by rw[<-Cz,JH,Ab];have:=Pt k i d;omega
theorem QC:(λ(va:Option Addr)(vn vc:Nat)(ka:Option Addr)(kn kc:Nat)=>prog.built 68 [(0, .int .i64 3),(4, .slice ka kn kc),(2, .slice va vn vc)])=λva vn vc ka kn kc=>some (NV.cells ⟨3,none,0,0,va,vn,vc,rz,ka,kn,kc⟩).toArray:=by kernel_rfl
theorem TB(va:Option Addr)(vn vc:Nat)(ka:Option Addr)(kn kc:Nat):prog.built 68 [(0, .int .i64 3),(4, .slice ka kn kc),(2, .slice va vn vc)]=some (NV.cells ⟨3,none,0,0,va,vn,vc,rz,ka,kn,kc⟩).toArray:=AH (AH (AH (AH (AH (AH QC va) vn) vc) ka) kn) kc
def RFS(t:Tr):Prop:=∀{v:World}{gW base:Nat}{vM:Value}{Y Z:Nat->Prop}{ns:List (List Int)}{val:Value},TA (KW gW vM Z) v t val->Wt v gW base vM Y ns->(∀b,v.heap.size<=b->Y b)->(ns++nmd t).length+1<=8800000000000->Calls prog 194 #[.pointer (some ⟨gW,0,none⟩),val] v λe w'=>∃u,e= .returned u/\RRf v gW base vM Y ns t u w'
structure BI(w:World)(gW base:Nat)(vN:Value)(X:Nat->Prop)(ns:List (List Int))(k:Nat->Tr)(vs:Nat->Value)(a:Option Addr)(n c:Nat)(x:List Int)(gB gN gK:Nat)(j:Nat)(vM:Value)(ys:Nat->RV)(v:World):Prop where
 hrB:Rw gB v (brc vs (.slice a n c)) 221
 hrN:Rw gN v nz.cells.toArray 68
 hK:Kr gK v ys
 hk:TK (KW gW vM (λb=>b<w.heap.size)) v k vs
 hx:Sk (KW gW vM (λb=>b<w.heap.size)) v a n c x
 hr:∀i,i<16->Rf (KW gW vM (λb=>gK<b)) v (ys i) (if i<j then rP k i else r0)
 hW:Wt v gW base vM (λb=>X b/\b≠gN/\b≠gK) (ns++nmJ k j)
 hG:Wg w v gW vN vM
theorem BI.skip{ns:List (List Int)}{v:World}(h:BI w gW base vN X ns k vs a n c x gB gN gK j vM ys v)(hno:(k j).isNo=true):BI w gW base vN X ns k vs a n c x gB gN gK (j+1) vM ys v:=by
 refine⟨h.hrB,h.hrN,h.hK,h.hk,h.hx,λi hi=>?_,by rw[JH,show nmK k j=[]from by unfold nmK;rw[Ai hno],A4];exact h.hW,h.hG⟩;have:=h.hr i hi;by_cases e:i=j
 ·subst e;rw[Ae (by omega)]at this;rw[Ai (by omega),show rP k i=r0 from by unfold rP;rw[Ai hno]];exact this
 ·by_cases h1:i<j
  ·rw[Ai h1]at this;rw[Ai (by omega)];exact this
  ·rw[Ae h1]at this;rw[Ae (by omega)];exact this
theorem BI.step{ns:List (List Int)}{v:World}(h:BI w gW base vN X ns k vs a n c x gB gN gK j vM ys v)(hj:j<16)(hno:(k j).isNo=false)(hg1:w.heap.size<=gB)(hg2:gB<gN)(hg3:gN<gK)
 {vP:Value} {u:World} (hRf:Rf (KW gW vP (λb=>v.heap.size<b)) u y (referP (encT (k j)))) (hW:Wt u gW base vP (λb=>X b/\b≠gN/\b≠gK) ((ns++nmJ k j)++(nmd (k j)++nm1 (encT (k j))))) (hG:Wg v u gW vM vP):Kr gK u ys/\BI w gW base vN X ns k vs a n c x gB gN gK (j+1) vP (updR ys j y) (u.setCells gK (0+j*34) y.cells):=by
 have hKu:=h.hK.wg hG h.hW;have hlt:=h.hK.lt;have hst:=St.of u gK (0+j*34) y.cells;have hyl:=hRf.at'.len;obtain⟨cur,hc1,hc2⟩:=hKu.row;refine⟨hKu,(h.hrB.wg hG h.hW (by decide) (by decide)).st hst (by omega),(h.hrN.wg hG h.hW (by decide) (by decide)).st hst (by omega),hKu.put hj hyl,(h.hk.wg hG).st hst (λb hb=>by have:=hb.2.2;omega),(h.hx.wg hG).st hst (λb hb=>by have:=hb.2.2;omega),λi hi=>?_,?_,(h.hG.trans hG).st hst (by omega)⟩
 ·by_cases e:i=j
  ·subst e;rw[Ai (by omega),show updR ys i y i=y from by simp[updR],show rP k i=referP (encT (k i))from by unfold rP;rw[Ae (by simp[hno])]];exact(hRf.mono (λb hb=>⟨hb.1,hb.2.1,by have:=hb.2.2;omega⟩)).st hst (λb hb=>by have:=hb.2.2;omega)
  ·rw[show updR ys j y i=ys i from by simp[updR,e]];have q:=((h.hr i hi).wg hG).st hst (λb hb=>by have:=hb.2.2;omega);by_cases h1:i<j
   ·rw[Ai h1]at q;rw[Ai (by omega)];exact q
   ·rw[Ae h1]at q;rw[Ae (by omega)];exact q
 ·have e:ns++nmJ k (j+1)=(ns++nmJ k j)++(nmd (k j)++nm1 (encT (k j))):=by rw[JH,show nmK k j=nmd (k j)++nm1 (encT (k j))from by unfold nmK;rw[Ae (by simp[hno])],A9]
  rw[e];exact hW.st hc1 (by decide) (by decide) (λb hb=>hb.2.2) hst
theorem I9(K:Nat->Prop)(w:World):RefAt K w rz r0:=⟨rfl,rfl,(GH w).2.2.1,rfl,⟨.inl ⟨rfl,rfl⟩,λ_=>⟨rfl,rfl⟩,rfl,λx hx=>by cases hx⟩,AD _,λ_ _ e=>by cases e⟩
theorem X4(h:Kr gK w ys)(hr:∀i,i<16->Rf K w (ys i) (if i<16 then rP k i else r0)):KidsAt (λ_=>True) w (some ⟨gK,0,none⟩) (nodeP (br k x)).ks:=by
 intro j r hj;have hl:j<16:=by have:=(Aw.1 hj).1;simpa[nodeP]using this
 have e:r=rP k j:=by
  simp only[nodeP]at hj;rw[C6,List.getElem?_range hl]at hj;simp at hj;rw[<-hj];rfl
 have q:=hr j hl;rw[Ai hl]at q;exact⟨gK,0,ys j,rfl,trivial,h.rng j hl,by rw[e];exact q.at'.go (λb hb _=>⟨rfl,trivial⟩)⟩
theorem TC{ns:List (List Int)}(hW:Wt w gW base vN X ns)(hk:TK (KW gW vN Z) w k vs)(hx:Sk (KW gW vN Z) w a n c x)(hn2:n<=256)(hX:∀b,w.heap.size<=b->X b)(hR:∀i,i<16->k i=no∨RFS (k i))(hM:(ns++nmJ k 16).length+1<=8800000000000):
 Calls prog 190 #[.agg (brc vs (.slice a n c)), .pointer (some ⟨gW,0,none⟩)] w λe w'=>∃u,e= .returned u/\RNd w gW base vN X ns (br k x) u w':=by
 have hB:=Bl.refl w;have hW0:=hW;refine EO func190 28<|Hn 2 (brc vs (.slice a n c)) 221 ?_;intro w1 gB hnB hrB;have hgB:=hnB.hg;have hsB:=hnB.size;refine Hn 0 nz.cells.toArray 68 ?_;intro w2 gN hnN hrN;have hgN:=hnN.hg;have hsN:=hnN.size;refine WD 4 kz 65 16 ?_;intro w3 gK hnK _;have hK:=Kr.new hnK;have hgK:=hnK.hg;replace hk:=((hk.aged.go hnB.below).go hnN.below).go hnK.below;replace hx:=((hx.aged.go hnB.below).go hnN.below).go hnK.below;replace hB:=((hB.go hnB.below).go hnN.below).go hnK.below;replace hrB:=(hrB.go hnN.below).go hnK.below;replace hrN:=hrN.go hnK.below;have hI:BI w gW base vN X ns k vs a n c x gB gN gK 0 vN (λ_=>rz) w3:=⟨hrB,hrN,hK,hk,hx,λi hi=>by rw[Ae (by omega)];exact⟨I9 _ _⟩,(by rw[show nmJ k 0=[]from rfl,A4];exact(hW0.mono (Y:=λb=>X b/\b≠gN/\b≠gK) (λb hb hx=>⟨hx,by omega,by omega⟩)).go hB),Wg.of_below hB⟩;have hord:w.heap.size<=gB/\gB<gN/\gN<gK:=by omega
 clear hrB hrN hK hk hx hB;refine Hx 7 (og f190 2 1) (.agg (bra vs)) (λ_=>Qi hI.hrB _ rfl (by kernel_rfl))<|Ho (X:=Nat×Value×(Nat->RV)) 4 (λz=>[(11, .int .i64 ((z.1:Nat):Int)),(10, .agg (bra vs)),(5, .slice (some ⟨gK,0,none⟩) 16 16),(1, .pointer (some ⟨gW,0,none⟩)),(2, .pointer (some ⟨gB,0,none⟩)),(4, .pointer (some ⟨gN,0,none⟩))]) (λz v=>BI w gW base vN X ns k vs a n c x gB gN gK z.1 z.2.1 z.2.2 v/\z.1<=16) (λz=>16-z.1) (0,vN,λ_=>rz) ⟨hI,AD _⟩ ?_;clear hI;rintro⟨j,vM,ys⟩ v⟨hI,hj⟩ I1 hN1;simp only at hI hj;by_cases hlt:j<16
 ·skip
  refine Ht 2 ((j:Int)<(16:Int))<|Hx 11 (og f190 4 1) (vs j) (λ_=>Lv _ _ vs j hlt rfl (by kernel_rfl) (by kernel_rfl))<|Hx 7 (og f190 5 1) (.bool (!(k j).isNo)) (λ_=>Y7 (hI.hk j hlt) _ _ rfl (by kernel_rfl) (by kernel_rfl)) ?_;cases hno:(k j).isNo with
  |true=>
   have hI2:=hI.skip hno;refine Hi 7 ((j:Int)+1) ((j+1:Nat):Int) ?_;exact hN1 2 (j+1,vM,ys) ⟨hI2,by omega⟩ (by show 16-(j+1)<16-j;omega) (λ_=>by kernel_rfl)
  |false=>
   have hRj:RFS (k j):=by
    rcases hR j hlt with h|h
    ·rw[h]at hno;simp[isNo]at hno
    ·exact h
   have hMj:((ns++nmJ k j)++nmd (k j)).length+1<=8800000000000:=by
    have h1:=Pt k (j+1) (15-j);rw[show j+1+(15-j)=16 from by omega,JH,show nmK k j=nmd (k j)++nm1 (encT (k j))from by unfold nmK;rw[Ae (by simp[hno])]]at h1;simp only[Ab]at h1 hM⊢;omega
   refine Hc 8 (R:=RRf v gW base vM (λb=>X b/\b≠gN/\b≠gK) (ns++nmJ k j) (k j)) (hRj (hI.hk j hlt) hI.hW (λb hb=>⟨hX b (Ar hI.hG.size hb),by have:=hI.hK.lt;omega,by have:=hI.hK.lt;omega⟩) hMj) ?_;rintro _ u1⟨y,vP,rfl,hRf,hW1,hG1⟩;have hyl:=hRf.at'.len;obtain⟨hKu,hI2⟩:=hI.step hlt hno hord.1 hord.2.1 hord.2.2 hRf hW1 hG1;refine Hx 0 (og f190 6 5) (.pointer (some ⟨gK,0+j*34,none⟩)) (λ_=>Bh 66 _ _ gK 0 j 16 16 34 65 rfl (by kernel_rfl) (by kernel_rfl) hlt underlying66 (by kernel_rfl))<|Hs 0 (og f190 6 6) (λ_=>Ke _ _ hKu hlt hyl rfl (by kernel_rfl) (by kernel_rfl)) ?_;generalize u1.setCells gK (0+j*34) y.cells=wS at hI2⊢;refine Hi 4 ((j:Int)+1) ((j+1:Nat):Int) ?_;exact hN1 2 (j+1,vP,updR ys j y) ⟨hI2,by omega⟩ (by show 16-(j+1)<16-j;omega) (λ_=>by kernel_rfl)
 obtain rfl:j=16:=by omega
 refine Hb 2 (decide (((16:Nat):Int)<(16:Int))) false (rfl)<|Hl 13 hI.hrB 16 23 (.slice a n c)<|Hx 0 (og f190 8 3) (.agg (NV.cells ⟨3,none,0,0,a,n,c,rz,some ⟨gK,0,none⟩,16,16⟩).toArray) (λ_=>Ep 68 _ [(0, .int .i64 3),(4, .slice (some ⟨gK,0,none⟩) 16 16),(2, .slice a n c)] _ rfl (by kernel_rfl) (TB _ _ _ _ _ _))<|Hy 0 (og f190 8 4) gN (NV.cells ⟨3,none,0,0,a,n,c,rz,some ⟨gK,0,none⟩,16,16⟩).toArray (λ_=>BP 68 _ _ _ _ _ _ rfl (by kernel_rfl) (by kernel_rfl) hI.hrN (by rw[E7,Db (y:=⟨3,none,0,0,a,n,c,rz,some ⟨gK,0,none⟩,16,16⟩) rfl]) (by rw[Db (y:=⟨3,none,0,0,a,n,c,rz,some ⟨gK,0,none⟩,16,16⟩) rfl];rfl) (Gj _)) ?_;intro wE hpE;have hrE:Rw gN wE (NV.cells ⟨3,none,0,0,a,n,c,rz,some ⟨gK,0,none⟩,16,16⟩).toArray 68:=hpE.row hI.hrN;have hxE:=hI.hx.put hpE (λb hb=>by have:=hb.2.2;omega);have hKE:=hI.hK.same (hpE.other (by omega));have hRE:=λi hi=>(hI.hr i hi).put hpE (λb hb=>by have:=hb.2.2;omega);have hWE:=(hI.hW.put hI.hrN (by decide) (by decide) (λb hb=>hb.2.1) hpE).mono (Y:=X) (λb _ hb=>hb.1);have hGE:=hI.hG.put hpE (by omega);have lx:=hxE.len;exact OB 3 (.agg (NV.cells ⟨3,none,0,0,a,n,c,rz,some ⟨gK,0,none⟩,16,16⟩).toArray) (λ_=>Ev results190 _ gN ⟨3,none,0,0,a,n,c,rz,some ⟨gK,0,none⟩,16,16⟩ rfl (by kernel_rfl) hrE) ⟨_,rfl,⟨3,none,0,0,a,n,c,rz,some ⟨gK,0,none⟩,16,16⟩,vM,rfl,⟨rfl,JG _,hxE.agk (by omega),GH _,⟨(by simp[nodeP]),Aa _,(by show 16<=maxLen;unfold maxLen;omega),(by show 16<=_;omega),λe=>by cases e⟩,X4 hKE hRE⟩,hWE,hGE⟩
theorem TD(x:Value):Iv "pergola/trie.node" (.iface 131 x) 179 x:=Hh λw vs=>by kernel_rfl
theorem TE(x:Value):Iv "pergola/trie.node" (.iface 226 x) 197 x:=Hh λw vs=>by kernel_rfl
theorem TF(x:Value):Iv "pergola/trie.node" (.iface 221 x) 190 x:=Hh λw vs=>by kernel_rfl
def NDS(t:Tr):Prop:=∀{v:World}{gW base:Nat}{vM:Value}{Y Z:Nat->Prop}{ns:List (List Int)}{val:Value},TA (KW gW vM Z) v t val->Wt v gW base vM Y ns->(∀b,v.heap.size<=b->Y b)->(ns++nmd t).length+1<=8800000000000->MC "pergola/trie.node" val #[.pointer (some ⟨gW,0,none⟩)] v (RNd v gW base vM Y ns t)
theorem Sq{t:Tr}(hne:t≠no)(h:NDS t){v:World}{Y:Nat->Prop}{ns:List (List Int)}{val:Value}(ht:TA (KW gW vM Z) v t val)(hW:Wt v gW base vM Y ns)(hY:∀b,v.heap.size<=b->Y b)(hM:(ns++nmd t).length+1<=8800000000000):
 Calls prog 40 #[.pointer (some ⟨gW,0,none⟩),val] v λe w'=>∃u,e= .returned u/\REn v gW base vM Y ns t u w':=by
 have hm:=h ht hW hY hM;obtain⟨T0,v0,rfl⟩:=ht.iface hne;exact Q7 hne hm
theorem VM{t:Tr}(hne:t≠no)(h:NDS t):RFS t:=by
 intro v gW base vM Y Z ns val ht hW hY hM
 have hE:∀v',Bl v v'->∀Y':Nat->Prop,Wt v' gW base vM Y' ns->(∀b,v'.heap.size<=b->Y' b)->Calls prog 40 #[.pointer (some ⟨gW,0,none⟩),val] v' λe w'=>∃u,e= .returned u/\REn v' gW base vM Y' ns t u w':=
  λv' hb Y' hW' hY'=>Sq hne h (ht.go hb) hW' hY' hM
 obtain⟨T0,v0,rfl⟩:=ht.iface hne;by_cases hs:(encT t).length<32
 ·exact Oi hW hY hE hM hs
 ·exact Po hW hY hE hM hs
theorem X5(t:Tr):∀{B:Nat},Tr.Ok B t->B<=64->NDS t:=by
 induction t with
 |no=>intro B hO;exact hO.elim
 |leaf p x=>
  intro B hO h64 v gW base vM Y Z ns val ht hW hY hM;obtain⟨a1,n1,c1,a2,n2,c2,rfl,h1,h2,h3⟩:=ht;exact⟨_,_,_,rfl,TD _,T6 hW h1 h2 (by have:=h1.len;have:=hO.2.1;omega) h3⟩
 |ext p t ih=>
  intro B hO h64 v gW base vM Y Z ns val ht hW hY hM;obtain⟨a1,n1,c1,u,rfl,h1,h2⟩:=ht;obtain⟨o1,o2,o3,o4,o5⟩:=hO;have hne:t≠no:=λe=>by rw[e]at o4;simp[isBr]at o4
  have hR:RFS t:=VM hne (ih o5 (by omega));have hM':(ns++nmd t).length+1<=8800000000000:=by
   simp only[nmd,Ab]at hM⊢;omega
  obtain⟨Tu,xu,rfl⟩:=h2.iface hne;exact⟨_,_,_,rfl,TE _,T9 hW h1 (by have:=h1.len;omega) hY (λv' hb Y' hW' hY'=>hR (h2.go hb) hW' hY' hM')⟩
 |br k x ih=>
  intro B hO h64 v gW base vM Y Z ns val ht hW hY hM;obtain⟨vs,a1,n1,c1,rfl,h1,h2,h3⟩:=ht;refine⟨_,_,_,rfl,TF _,TC hW h1 h2 h3 hY (λi hi=>?_) hM⟩;rcases hO.1 i with h|⟨_,_,h⟩
  ·exact .inl h
  ·exact .inr (VM h.ne (ih i h (by omega)))
end Go.Proofs.YtefhepcplempkaaGreat
namespace Go.Proofs.YtefhepcplempkaaGreat
open Tr
open Di (dref)
variable {w : World} {gW g : Nat} {K : Nat → Prop}
def rootP(t:Tr):List Int:=if t.isNo then dref [128]else dref (encT t)
theorem Wg.below{v u:World}{vN vM:Value}(h:Wg v u gW vN vM)(hb:Bl w v)(hg:w.heap.size<=gW)(hv:vN.ownBlock=none):Bl w u:=
 Ce hb ⟨h.os,h.tape,h.output,h.size,λk hk=>h.block k (B7 hk hb.size) (by omega) (by rw[hv];simp)⟩
theorem Wt.new{w':World}(h:New w w' gW #[.slice none 0 0] 80):Wt w' gW gW (.slice none 0 0) (λ_=>True) []:=⟨h.row,⟨[],⟨rfl, .inl ⟨rfl,rfl⟩⟩,rfl,λj v hj=>by simp at hj⟩,Aa _⟩
theorem VN{t:Tr}{T0:TypeId}{v0:Value}(hr:Rw g w #[.iface T0 v0] 76)(ht:TA K w t (.iface T0 v0))(hO:Tr.Ok 64 t)(hne:t≠no)(hM:(nmd t).length+1<=8800000000000):
 Calls prog 14 #[.pointer (some ⟨g,0,none⟩)] w λe w'=>∃u,e= .returned u/\(λu w'=>u= .agg (B8 (dref (encT t)))/\Bl w w') u w':=by
 have hB:=Bl.refl w;have hdl:=dref_len (encT t);obtain⟨ds,hds⟩:∃ds,dref (encT t)=ds:=⟨_,rfl⟩;rw[hds]at hdl⊢;replace ht:=ht.old;refine EO func14 16<|Hn 2 (B8 z32) 35 ?_;intro w1 g2 hn3 hr4;replace hB:=hB.go hn3.below;replace hr:=hr.go hn3.below;replace ht:=ht.go hn3.below;have hgd:=hn3.hg;refine Hl 8 hr 0 74 (.iface T0 v0)<|Hn 8 #[.slice none 0 0] 80 ?_;intro wW gW hnW _;have hzW:=hB.size;replace hB:=hB.go hnW.below;replace hr:=hr.go hnW.below;replace ht:=ht.go hnW.below;replace hr4:=hr4.go hnW.below;have hgW:=hnW.hg;have hWt:=Wt.new hnW;refine Hl 3 hr 0 74 (.iface T0 v0)<|Hc 0 (R:=REn wW gW gW (.slice none 0 0) (λ_=>True) [] t) (Sq hne (X5 t hO (by omega)) (ht.mono (K':=KW gW (.slice none 0 0) (λ_=>True)) (λb hb=>⟨by omega,by simp[Value.ownBlock],trivial⟩)) hWt (λ_ _=>trivial) (by simpa using hM)) ?_;rintro _ u1⟨a2,n2,c2,vM,rfl,hs2,hW1,hG,hen,-⟩;replace hr4:=hr4.wg hG hWt (by decide) (by decide);replace hB:=hG.below hB (by omega) rfl;clear hr ht hWt;have l2:=hs2.len;refine Hc 0 (R:=λu w'=>u= .agg (B8 ds)/\Bl u1 w') ((Lg a2 n2 c2 (encT t) u1 hs2.ag (by omega)).mono (λe w' h=>⟨_,by rw[h.1,hds],rfl,h.2⟩)) ?_;rintro _ u2⟨rfl,hb2⟩;replace hr4:=hr4.go hb2;replace hB:=hB.go hb2;refine Hy 0 (og f14 3 7) g2 (B8 ds) (λ_=>BP 35 _ _ _ _ _ _ rfl (by kernel_rfl) (by kernel_rfl) hr4 (Gh hdl) (I4 hdl) (B8_one _)) ?_;intro uE hpE;replace hB:Bl w uE:=hpE.below hB (by omega) hB.size;have hrE:Rw g2 uE (B8 ds) 35:=hpE.row hr4;exact OB 3 (.agg (B8 ds)) (λ_=>I5 results14 _ g2 ds hdl (by kernel_rfl) hrE) ⟨_,rfl,rfl,hB⟩
theorem LZ{t:Tr}(h:Tri K w g t)(hM:(nmd t).length+1<=8800000000000):
 Calls prog 14 #[.pointer (some ⟨g,0,none⟩)] w λe w'=>∃u,e= .returned u/\u= .agg (B8 (rootP t))/\Bl w w':=by
 obtain⟨⟨v,h1,h2⟩,h3⟩:=h;rcases h3 with rfl|hO
 ·rw[show v= .nilIface from h2]at h1;exact Xr h1
 ·have hne:=hO.ne;obtain⟨T0,v0,rfl⟩:=h2.iface hne;rw[show rootP t=dref (encT t)from by unfold rootP;rw[Ae (λe=>hne (isNo_iff.1 e))]];exact VN h1 h2 hO hne hM
end Go.Proofs.YtefhepcplempkaaGreat
namespace Go.Proofs.YtefhepcplempkaaGreat
namespace Tr
def sz:Tr->Nat
 |no=>0
 |leaf _ _=>1
 |ext _ c=>sz c+1
 |br k _=>((List.range 16).map λi=>sz (k i)).sum+1
theorem VO(k:Nat->Tr)(i:Nat)(t:Tr)(m:Nat)(h:sz t<=sz (k i)+m):∀n,((List.range n).map λj=>sz (upd k i t j)).sum<=((List.range n).map λj=>sz (k j)).sum+(if i<n then m else 0)
 |0=>by simp
 |n+1=>by
  have ih:=VO k i t m h n;rw[CR,BB,BB,List.sum_append,List.sum_append];simp only[BX,DB,List.sum_cons,List.sum_nil,CD];by_cases e:n=i
  ·subst e;rw[C1,Ai (by omega)];rw[Ae (by omega)]at ih;omega
  ·rw[Cx k t e];by_cases h2:i<n
   ·rw[Ai (by omega)];rw[Ai h2]at ih;omega
   ·rw[Ae (by omega)];rw[Ae h2]at ih;omega
theorem Ol(k:Nat->Tr)(i:Nat)(t:Tr)(m:Nat)(x y:List Int)(h:sz t<=sz (k i)+m):sz (br (upd k i t) x)<=sz (br k y)+m:=by
 have:=VO k i t m h 16;simp only[sz];split at this<;>omega
theorem QD(p:List Int)(t:Tr):sz (und p t)<=sz t+1:=by
 cases t with
 |no=>simp[und,sz]
 |leaf q v=>simp[und,sz]
 |ext q c=>simp[und,sz]
 |br k v=>
  simp only[und];split
  ·omega
  ·simp only[sz];omega
theorem QE(k:Nat->Tr)(x q v:List Int):sz (add k x q v)<=sz (br k x)+1:=by
 cases q with
 |nil=>simp only[add,sz];omega
 |cons i r=>exact Ol k i.toNat (leaf r v) 1 x x (by simp only[sz];omega)
theorem X6(t:Tr)(q v:List Int):sz (addT t q v)<=sz t+1:=by
 cases t with
 |br k x=>exact QE k x q v
 |no=>simp[addT]
 |leaf p x=>simp[addT]
 |ext p c=>simp[addT]
theorem Yp(x:List Int):sz (br nk x)=1:=by
 simp only[sz];have:((List.range 16).map λi=>sz (nk i))=(List.range 16).map λ_=>0:=by simp[nk,sz]
 rw[this];rfl
theorem YX:∀(t:Tr)(q v:List Int),sz (put t q v)<=sz t+3:=by
 intro t
 induction t with
 |no=>intro q v;simp[put,sz]
 |leaf p x=>
  intro q v;simp only[put];split
  ·simp[sz]
  ·have h1:=QD (q.take (Ni.com p q)) (addT (add nk [] (p.drop (Ni.com p q)) x) (q.drop (Ni.com p q)) v);have h2:=X6 (add nk [] (p.drop (Ni.com p q)) x) (q.drop (Ni.com p q)) v;have h3:=QE nk [] (p.drop (Ni.com p q)) x;have h4:=Yp [];have h5:sz (leaf p x)=1:=rfl;omega
 |ext p c ih=>
  intro q v;simp only[put];split
  ·have:=ih (q.drop p.length) v;simp only[sz];omega
  ·have h1:=QD (q.take (Ni.com p q)) (add (upd nk (p.getD (Ni.com p q) 0).toNat (und (p.drop (Ni.com p q+1)) c)) [] (q.drop (Ni.com p q)) v);have h2:=QE (upd nk (p.getD (Ni.com p q) 0).toNat (und (p.drop (Ni.com p q+1)) c)) [] (q.drop (Ni.com p q)) v;have h3:=Ol nk (p.getD (Ni.com p q) 0).toNat (und (p.drop (Ni.com p q+1)) c) (sz c+1) [] [] (by have:=QD (p.drop (Ni.com p q+1)) c;omega);have h4:=Yp [];have h5:sz (ext p c)=sz c+1:=rfl;omega
 |br k x ih=>
  intro q v;cases q with
  |nil=>simp[put,sz]
  |cons i r=>exact Ol k i.toNat (put (k i.toNat) r v) 3 x x (ih i.toNat r v)
theorem VP(f g:Nat->Nat)(h:∀i,f i<=g i):∀l:List Nat,(l.map f).sum<=(l.map g).sum
 |[]=>Aa _
 |a::l=>by simp only[BX,List.sum_cons];have:=h a;have:=VP f g h l;omega
theorem Sr(b:List Int):(nm1 b).length<=1:=by unfold nm1;split<;>simp
theorem X7:∀t:Tr,(nmd t).length+(if t.isNo then 0 else 1)<=sz t:=by
 intro t
 induction t with
 |no=>simp[nmd,isNo,sz]
 |leaf p x=>simp[nmd,isNo,sz]
 |ext p c ih=>
  simp only[nmd,isNo,sz,Ab,Cd,Er];have h1:=Sr (encT c);by_cases hc:c.isNo=true
  ·rw[Ai hc]at ih;cases c with
   |no=>simp[encT,nm1,nmd,sz]
   |leaf p x=>simp[isNo]at hc
   |ext p x=>simp[isNo]at hc
   |br p x=>simp[isNo]at hc
  ·rw[Ae hc]at ih;omega
 |br k x ih=>
  rw[show(br k x).isNo=false from rfl];simp only[nmd,sz,Cd,Er,List.length_flatMap]
  have:=VP (λi=>(if(k i).isNo then[]else nmd (k i)++nm1 (encT (k i))).length) (λi=>sz (k i)) (λi=>by
   have h1:=Sr (encT (k i));have h2:=ih i;by_cases hc:(k i).isNo=true
   ·simp[hc]
   ·rw[Ae hc]at h2;simp only[hc,Cd,Er,Ab];omega) (List.range 16)
  omega
theorem YY(t:Tr):(nmd t).length<=sz t:=by have:=X7 t;omega
end Tr
open Tr
theorem X8(t:Tr)(k x:List Int):Tr.sz (putT t k x)<=Tr.sz t+3:=by
 unfold putT;split
 ·exact YX _ _ _
 ·omega
end Go.Proofs.YtefhepcplempkaaGreat
namespace Go.Proofs.YtefhepcplempkaaGreat
open Tr
open Di (dref)
theorem QF(t:Tr):(rootP t).length=32:=by unfold rootP;split<;>exact dref_len _
theorem Ma:putT no [97] [1]=leaf [6,1] [1]:=by simp[putT,put,Ni.nib]
theorem Ng:encT (leaf [6,1] [1])=[196,130,32,97,1]:=by kernel_rfl
theorem QG:rootP (leaf [6,1] [1])=dref [196,130,32,97,1]:=by rw[<-Ng];rfl
theorem Pu:ND [196,130,32,97,1]=some ⟨1,[6,1],[1],r0,[]⟩:=by kernel_rfl
end Go.Proofs.YtefhepcplempkaaGreat
namespace Go.Proofs.YtefhepcplempkaaGreat
open Tr
open Ni (lessP)
variable {K K' : Nat → Prop} {w : World} {a : Option Addr} {n c j : Nat} {p q k : List Int} {p' : Addr} {v' : Value}
theorem Sk.byte(h:Sk K w a n c p)(hj:j<n):∃g off,a=some ⟨g,off,none⟩/\w.cell? ⟨g,off+j*1,none⟩=some (.int .u8 (p.getD j 0)):=by
 rcases h.ag.i with⟨h1,h2⟩|⟨gb,off,h1,h2,h3,h4,h5,h7⟩
 ·omega
 ·exact⟨gb,off,h1,by rw[BS];exact h7 j (by have:=h.len;omega)⟩
theorem Kg(hj:j<p.length):p.drop j=p.getD j 0::p.drop (j+1):=by
 rw[Bz hj];simp[List.getD,hj]
theorem TG(h1:j<p.length)(h2:j<q.length):lessP (p.drop j) (q.drop j)=if p.getD j 0=q.getD j 0 then lessP (p.drop (j+1)) (q.drop (j+1))else decide (p.getD j 0<q.getD j 0):=by
 rw[Kg h1,Kg h2];rfl
theorem VQ(h:¬(j<p.length/\j<q.length))(h1:j<=p.length)(h2:j<=q.length):lessP (p.drop j) (q.drop j)=decide (p.length<q.length):=by
 by_cases e:j=p.length
 ·rw[BJ (by omega)];by_cases e2:j<q.length
  ·rw[Kg e2];rw[AT (by omega)];rfl
  ·rw[BJ (by omega),Bb (by omega)];rfl
 ·rw[show q.drop j=[]from BJ (by omega),Bb (by omega)];cases p.drop j<;>rfl
structure Cl2(w:World)(p p':Addr)(v v':Value):Prop where
 cx:w.cell? p=some v
 cy:w.cell? p'=some v'
theorem Cl2.drew{p:Addr}{v:Value}(h:Cl2 w p p' v v'):Cl2 w.drew p p' v v':=⟨h.cx,h.cy⟩
theorem Cl2.go{w':World}{p:Addr}{v:Value}(h:Cl2 w p p' v v')(hb:Below w.heap.size w w'):Cl2 w' p p' v v':=⟨(hb.cell (p:=p) (Af h.cx)).trans h.cx,(hb.cell (p:=p') (Af h.cy)).trans h.cy⟩
theorem VR{l:PList}(hj:j<l.length){e:List Int×List Int}(he:l[j]?=some e):atN k (l.drop j)=if lessP e.1 k then atN k (l.drop (j+1))+1 else 0:=by
 have:l.drop j=e::l.drop (j+1):=by
  rw[Bz hj];rw[Ac hj]at he;simp at he;rw[he]
 rw[this];rfl
theorem X9{l:PList}(h:atN k l=j){e:List Int×List Int}(he:l[j]?=some e):isAt k l=decide (e.1=k):=by
 unfold isAt;rw[h,he]
theorem Pv{l:PList}(h:atN k l=l.length):isAt k l=false:=by
 unfold isAt;rw[h,List.getElem?_eq_none (Aa _)]
theorem TH{a':Option Addr}{n' c':Nat}(hp:Sk K w a n c p)(hq:Sk K' w a' n' c' q)(hn:n<=1000000):
 Calls prog 72 #[.slice a n c, .slice a' n' c'] w λe w'=>∃u,e= .returned u/\(λu w'=>u= .bool (lessP p q)/\Bl w w') u w':=by
 have hB:=Bl.refl w;have lp:=hp.len;have lq:=hq.len;refine EO func72 41<|Ho (X:=Nat) 12 (λj=>[(5, .int .i64 (j:Int)),(0, .slice a n c),(1, .slice a' n' c')]) (λj v=>Bl w v/\j<=n/\j<=n'/\lessP (p.drop j) (q.drop j)=lessP p q) (λj=>n-j) 0 ⟨hB,AD _,AD _,by simp⟩ ?_;clear hB;rintro j v⟨hB,hj1,hj2,hL⟩ I1 hN1;by_cases hlt:j<n/\j<n'
 ·skip
  obtain⟨g1,o1,e1,hc1⟩:=(hp.go hB).byte hlt.1;obtain⟨g2,o2,e2,hc2⟩:=(hq.go hB).byte hlt.2;subst e1;subst e2;have hst:=TG (p:=p) (q:=q) (j:=j) (by omega) (by omega);obtain⟨x,ex⟩:∃x,p.getD j 0=x:=⟨_,rfl⟩;obtain⟨y,ey⟩:∃y,q.getD j 0=y:=⟨_,rfl⟩;rw[ex,ey,hL]at hst;rw[ex]at hc1;rw[ey]at hc2;have hS:Cl2 v ⟨g1,o1+j*1,none⟩ ⟨g2,o2+j*1,none⟩ (.int .u8 x) (.int .u8 y):=⟨hc1,hc2⟩;refine Ht 6 ((j:Int)<(n:Int))<|Ht 4 ((j:Int)<(n':Int))<|Hj 9 (λv=>Cl2 v ⟨g1,o1+j*1,none⟩ ⟨g2,o2+j*1,none⟩ (.int .u8 x) (.int .u8 y)) (hS.drew) ?_;replace hS:=hS.drew;refine Dx [0,1] 2 (og f72 4 2) (.pointer (some ⟨g1,o1+j*1,none⟩)) (λv hv _=>Bh 23 _ _ g1 o1 j n c 1 5 rfl (by kernel_rfl) (by kernel_rfl) hlt.1 underlying23 (by kernel_rfl)) hS<|Dx [] 3 (og f72 4 3) (.int .u8 x) (λv hv _=>AA 5 _ _ _ _ rfl (by kernel_rfl) hv.cx underlying5 rfl) hS<|Dx [4,5] 6 (og f72 4 6) (.pointer (some ⟨g2,o2+j*1,none⟩)) (λv hv _=>Bh 23 _ _ g2 o2 j n' c' 1 5 rfl (by kernel_rfl) (by kernel_rfl) hlt.2 underlying23 (by kernel_rfl)) hS<|Dx [] 7 (og f72 4 7) (.int .u8 y) (λv hv _=>AA 5 _ _ _ _ rfl (by kernel_rfl) hv.cy underlying5 rfl) hS<|Dx [] 8 (og f72 4 8) (.bool (!((x:Int)==(y:Int)))) (λv hv _=>by kernel_rfl) hS<|Do ?_;by_cases hxy:x=y
  ·skip
   rw[show(!((x:Int)==(y:Int)))=false from by simp[hxy]];refine Hi 7 ((j:Int)+1) ((j:Int)+1) ?_;replace hB:=hB.drew;exact hN1 2 (j+1) ⟨hB,by omega,by omega,by rw[hst,Ai hxy]⟩ (by show n-(j+1)<n-j;omega) (λ_=>by kernel_rfl)
  ·skip
   rw[show(!((x:Int)==(y:Int)))=true from by simp[hxy]];refine Hj 3 (λv=>Cl2 v ⟨g1,o1+j*1,none⟩ ⟨g2,o2+j*1,none⟩ (.int .u8 x) (.int .u8 y)) (hS.drew) ?_;replace hS:=hS.drew;refine Dx [0,1] 2 (og f72 5 2) (.pointer (some ⟨g1,o1+j*1,none⟩)) (λv hv _=>Bh 23 _ _ g1 o1 j n c 1 5 rfl (by kernel_rfl) (by kernel_rfl) hlt.1 underlying23 (by kernel_rfl)) hS<|Dx [] 3 (og f72 5 3) (.int .u8 x) (λv hv _=>AA 5 _ _ _ _ rfl (by kernel_rfl) hv.cx underlying5 rfl) hS<|Dx [4,5] 6 (og f72 5 6) (.pointer (some ⟨g2,o2+j*1,none⟩)) (λv hv _=>Bh 23 _ _ g2 o2 j n' c' 1 5 rfl (by kernel_rfl) (by kernel_rfl) hlt.2 underlying23 (by kernel_rfl)) hS<|Dx [] 7 (og f72 5 7) (.int .u8 y) (λv hv _=>AA 5 _ _ _ _ rfl (by kernel_rfl) hv.cy underlying5 rfl) hS<|Dx [] 8 (og f72 5 8) (.bool (decide ((x:Int)<(y:Int)))) (λv hv _=>by kernel_rfl) hS<|Dx [] 9 (og f72 5 9) (.bool (decide ((x:Int)<(y:Int)))) (λv hv _=>by kernel_rfl) hS<|Do ?_;replace hB:=hB.drew.drew;exact Hr 7 (.bool (decide ((x:Int)<(y:Int)))) ⟨_,rfl,by rw[hst,Ae hxy],hB⟩
 have hen:=VQ (p:=p) (q:=q) (j:=j) (by omega) (by omega) (by omega);rw[lp,lq]at hen;by_cases hl1:j<n
 ·skip
  refine Ht 6 ((j:Int)<(n:Int))<|Hf 4 ((j:Int)<(n':Int))<|Hp 15 (.bool (decide ((n:Int)<(n':Int))))<|Hp 0 (.bool (decide ((n:Int)<(n':Int)))) ?_;exact Hr 3 (.bool (decide ((n:Int)<(n':Int)))) ⟨_,rfl,by rw[<-hL,hen];congr 1;exact EK.2 (by omega),hB⟩
 ·skip
  refine Hf 6 ((j:Int)<(n:Int))<|Hp 20 (.bool (decide ((n:Int)<(n':Int))))<|Hp 0 (.bool (decide ((n:Int)<(n':Int)))) ?_;exact Hr 3 (.bool (decide ((n:Int)<(n':Int)))) ⟨_,rfl,by rw[<-hL,hen];congr 1;exact EK.2 (by omega),hB⟩
theorem VS{vs:List (Value×Value)}{l:PList}(hl:PAt K w a n c vs l){ak:Option Addr}{nk ck:Nat}(hk:Sk K' w ak nk ck k)(hb:n<=2932031007390)(hlen:∀(j:Nat) k x,l[j]?=some (k,x)->k.length<=1000000):
 Calls prog 44 #[.slice a n c, .slice ak nk ck] w λe w'=>∃u,e= .returned u/\(λu w'=>u= .tuple #[.int .i64 ((atN k l:Nat):Int), .bool (isAt k l)]/\Bl w w') u w':=by
 have hB:=Bl.refl w;have ll:=hl.ll;refine EO func44 39<|Ho (X:=Nat) 13 (λj=>[(6, .int .i64 (j:Int)),(0, .slice a n c),(1, .slice ak nk ck)]) (λj v=>Bl w v/\j<=n/\atN k (l.drop j)+j=atN k l) (λj=>n-j) 0 ⟨hB,AD _,by simp⟩ ?_;clear hB;rintro j v⟨hB,hj1,hA⟩ I1 hN1;by_cases hlt:j<n
 ·skip
  obtain⟨g,off,a1,n1,c1,a2,n2,c2,k1,x1,ea,hej,hc1,hc2,hs1,hs2⟩:=(hl.go hB).at hlt;subst ea;have hst:=VR (k:=k) (l:=l) (j:=j) (by omega) hej;have hS:Cl2 v ⟨g,off+j*2,none⟩ ⟨g,off+j*2+1,none⟩ (.slice a1 n1 c1) (.slice a2 n2 c2):=⟨hc1,hc2⟩;refine Ht 6 ((j:Int)<(n:Int))<|Hx 10 (og f44 3 2) (.pointer (some ⟨g,off+j*2,none⟩)) (λ_=>Bh 22 _ _ g off j n c 2 51 rfl (by kernel_rfl) (by kernel_rfl) hlt underlying22 (by kernel_rfl))<|Hx 1 (og f44 3 4) (.slice a1 n1 c1) (λ_=>AA 23 _ _ _ _ rfl (by kernel_rfl) hS.cx underlying23 rfl)<|Hc 1 (R:=λu w'=>u= .bool (lessP k1 k)/\Bl (v) w') ((TH hs1 (hk.go hB) (by have:=hlen j k1 x1 hej;have:=hs1.len;omega))) ?_;rintro _ u1⟨rfl,hb2⟩;refine Hp 0 (.bool (lessP k1 k))<|Hp 5 (.bool (lessP k1 k))<|Hp 0 (.bool (!(lessP k1 k))) ?_;by_cases hah:lessP k1 k=true
  ·skip
   rw[hah];refine Hi 7 ((j:Int)+1) ((j:Int)+1) ?_;replace hB:=hB.go hb2;exact hN1 3 (j+1) ⟨hB,by omega,by rw[Ai hah]at hst;omega⟩ (by show n-(j+1)<n-j;omega) (λ_=>by kernel_rfl)
  ·skip
   replace hah:lessP k1 k=false:=(by simpa using hah);have hjn:atN k l=j:=(by rw[hst,Ae (by rw[hah];exact Cv)]at hA;omega);rw[hah];replace hB:=hB.go hb2;replace hS:=hS.go hb2;replace hs1:=hs1.go hb2;have hZ:Cl2 u1 ⟨g,off+j*2,none⟩ ⟨g,off+j*2+1,none⟩ (.slice a1 n1 c1) (.slice a2 n2 c2)/\Sk K u1 a1 n1 c1 k1/\Sk K' u1 ak nk ck k:=⟨hS,hs1,hk.go hB⟩;refine Hj 10 (λv=>Cl2 v ⟨g,off+j*2,none⟩ ⟨g,off+j*2+1,none⟩ (.slice a1 n1 c1) (.slice a2 n2 c2)/\Sk K v a1 n1 c1 k1/\Sk K' v ak nk ck k) (⟨hZ.1.drew,hZ.2.1.drew,hZ.2.2.drew⟩)<|Dx [0,1,2,3] 4 (og f44 6 4) (.bool true) (λv hv=>(λ_=>Bu (v:= .bool (decide ((j:Int)<(n:Int)))) (by kernel_rfl) (Au Value.bool (AT (by omega))))) (show Cl2 u1.drew ⟨g,off+j*2,none⟩ ⟨g,off+j*2+1,none⟩ (.slice a1 n1 c1) (.slice a2 n2 c2)/\Sk K u1.drew a1 n1 c1 k1/\Sk K' u1.drew ak nk ck k from⟨hZ.1.drew,hZ.2.1.drew,hZ.2.2.drew⟩)<|Dx [5,6,7] 8 (og f44 6 8) (.pointer (some ⟨g,off+j*2,none⟩)) (λv hv _=>Bh 22 _ _ g off j n c 2 51 rfl (by kernel_rfl) (by kernel_rfl) hlt underlying22 (by kernel_rfl)) (show Cl2 u1.drew ⟨g,off+j*2,none⟩ ⟨g,off+j*2+1,none⟩ (.slice a1 n1 c1) (.slice a2 n2 c2)/\Sk K u1.drew a1 n1 c1 k1/\Sk K' u1.drew ak nk ck k from⟨hZ.1.drew,hZ.2.1.drew,hZ.2.2.drew⟩)<|Dx [9] 10 (og f44 6 10) (.slice a1 n1 c1) (λv hv _=>AA 23 _ _ _ _ rfl (by kernel_rfl) hv.1.cx underlying23 rfl) (show Cl2 u1.drew ⟨g,off+j*2,none⟩ ⟨g,off+j*2+1,none⟩ (.slice a1 n1 c1) (.slice a2 n2 c2)/\Sk K u1.drew a1 n1 c1 k1/\Sk K' u1.drew ak nk ck k from⟨hZ.1.drew,hZ.2.1.drew,hZ.2.2.drew⟩)<|Dx [] 11 (og f44 6 11) (.string (strOfNums k1)) (λv hv _=>hv.2.1.run_str _ _ _ rfl (by kernel_rfl)) (show Cl2 u1.drew ⟨g,off+j*2,none⟩ ⟨g,off+j*2+1,none⟩ (.slice a1 n1 c1) (.slice a2 n2 c2)/\Sk K u1.drew a1 n1 c1 k1/\Sk K' u1.drew ak nk ck k from⟨hZ.1.drew,hZ.2.1.drew,hZ.2.2.drew⟩)<|Dx [12] 13 (og f44 6 13) (.string (strOfNums k)) (λv hv _=>hv.2.2.run_str _ _ _ rfl (by kernel_rfl)) (show Cl2 u1.drew ⟨g,off+j*2,none⟩ ⟨g,off+j*2+1,none⟩ (.slice a1 n1 c1) (.slice a2 n2 c2)/\Sk K u1.drew a1 n1 c1 k1/\Sk K' u1.drew ak nk ck k from⟨hZ.1.drew,hZ.2.1.drew,hZ.2.2.drew⟩)<|Dx [] 14 (og f44 6 14) (.bool (decide (k1=k))) (λv hv _=>PP 9 _ _ _ _ _ rfl (by kernel_rfl) (by kernel_rfl) (KU hs1.ag.b hk.ag.b)) (show Cl2 u1.drew ⟨g,off+j*2,none⟩ ⟨g,off+j*2+1,none⟩ (.slice a1 n1 c1) (.slice a2 n2 c2)/\Sk K u1.drew a1 n1 c1 k1/\Sk K' u1.drew ak nk ck k from⟨hZ.1.drew,hZ.2.1.drew,hZ.2.2.drew⟩)<|Dx [] 15 (og f44 6 15) (.bool (decide (k1=k))) (λv hv _=>by kernel_rfl) (show Cl2 u1.drew ⟨g,off+j*2,none⟩ ⟨g,off+j*2+1,none⟩ (.slice a1 n1 c1) (.slice a2 n2 c2)/\Sk K u1.drew a1 n1 c1 k1/\Sk K' u1.drew ak nk ck k from⟨hZ.1.drew,hZ.2.1.drew,hZ.2.2.drew⟩)<|Dx [16] 17 (og f44 6 17) (.bool (decide (k1=k))) (λv hv _=>by kernel_rfl) (show Cl2 u1.drew ⟨g,off+j*2,none⟩ ⟨g,off+j*2+1,none⟩ (.slice a1 n1 c1) (.slice a2 n2 c2)/\Sk K u1.drew a1 n1 c1 k1/\Sk K' u1.drew ak nk ck k from⟨hZ.1.drew,hZ.2.1.drew,hZ.2.2.drew⟩)<|Do ?_;replace hB:=hB.drew;exact Hr 2 (.tuple #[.int .i64 (j:Int), .bool (decide (k1=k))]) ⟨_,rfl,by rw[hjn,X9 hjn hej],hB⟩
 have hjn:atN k l=l.length:=by rw[BJ (by omega)]at hA;simp only[atN]at hA;omega
 have hS:True:=trivial;refine Hf 6 ((j:Int)<(n:Int))<|Hj 9 (λ_=>True) (trivial)<|Dx [0,1,2,3] 4 (og f44 6 4) (.bool false) (λv hv=>(λ_=>Bu (v:= .bool (decide ((j:Int)<(n:Int)))) (by kernel_rfl) (Au Value.bool (Bb (by omega))))) trivial<|Dq [5,6,7,8,9,10,11,12,13,14,15,16,17] trivial ?_;replace hB:=hB.drew;exact Hr 2 (.tuple #[.int .i64 (j:Int), .bool false]) ⟨_,rfl,by rw[Pv hjn,hjn,show j=l.length from by omega],hB⟩
end Go.Proofs.YtefhepcplempkaaGreat
