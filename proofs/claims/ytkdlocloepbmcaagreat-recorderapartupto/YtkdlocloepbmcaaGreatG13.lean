/- What itemOf answers. -/
import Derived.Test.YtkdlocloepbmcaaGreatG12
set_option linter.unusedVariables false
set_option linter.unusedSimpArgs false
set_option maxRecDepth 100000
set_option maxHeartbeats 8000000
open Go.Proofs.Tryz Go.RowKit
namespace Go.Proofs.YtkdlocloepbmcaaGreat
section
open Ni (packP)
variable {w w' : World} {base : Nat}
def two(p q:V):Ξ:=#[β p.l,σ p.ba p.bn p.bc,σ p.ia p.m p.ic,β q.l,σ q.ba q.bn q.bc,σ q.ia q.m q.ic]
section
variable {a : Act} {w : World}
theorem MX{x y:Operand}{o:Oper}(d:o.op= .buildSlice 106 2 #[(0,x),(1,y)])(p q:V)(c:a.eval x=γ #[β p.l,σ p.ba p.bn p.bc,σ p.ia p.m p.ic])(b:a.eval y=γ #[β q.l,σ q.ba q.bn q.bc,σ q.ia q.m q.ic]):
 (execOp a.eval o).run prog w= .ok (.value (σ (some ⟨w.heap.size,0,none⟩) 2 2)) (w.alloc (.cells (two p q) 108)):=by
 unfold execOp;rw[d];simp only[BT,Bd,BY,c,b];go_simp;rfl
theorem MY{x y:Operand}{o:Oper}(d:o.op= .store 108 x y)(g:Nat)(p:V)(c:a.eval x=π g)(b:a.eval y=γ #[β p.l,σ p.ba p.bn p.bc,σ p.ia p.m p.ic])
 (x0:w.cell? ⟨g,0,none⟩=some (β false)) (x1:w.cell? ⟨g,1,none⟩=some (ε)) (x2:w.cell? ⟨g,2,none⟩=some (ε)) (xf:∀o,w.frozen? ⟨g,o,none⟩=false):
 (execOp a.eval o).run prog w= .ok .skip (((w.setCell ⟨g,0,none⟩ (β p.l)).setCell ⟨g,1,none⟩ (σ p.ba p.bn p.bc)).setCell ⟨g,2,none⟩ (σ p.ia p.m p.ic)):=by
 unfold execOp;rw[d];simp only[c,b];go_simp
end
theorem Pz{P:Nat->Prop}{t u:T}{p q:V}(hP:P w.heap.size)(hp:LiesP P w t p)(hq:LiesP P w u q):LiesPAll P (w.alloc (.cells (two p q) 108)) [t,u] (some ⟨w.heap.size,0,none⟩) 0:=by
 have hrow:=heap_alloc_new w (.cells (two p q) 108);have hc:∀j,(w.alloc (.cells (two p q) 108)).cell? ⟨w.heap.size,j,none⟩=(two p q)[j]?:=λj=>cell_of_row _ _ _ _ _ _ hrow;refine GU hP λi s hs=>?_
 match i,hs with
 |0,hs=>
  simp at hs;subst hs;exact⟨p,hc 0,hc 1,hc 2,BD (λb hb hlt=>⟨heap_alloc_old _ _ hlt,hb⟩) _ _ hp⟩
 |1,hs=>
  simp at hs;subst hs;exact⟨q,hc 3,hc 4,hc 5,BD (λb hb hlt=>⟨heap_alloc_old _ _ hlt,hb⟩) _ _ hq⟩
 |k+2,hs=>simp at hs
theorem P2{fn:Func}{p:Tmp}(h:fn.results=#[.cell p 108]){post:Ending->Γ->Prop}{Q:Exit->Act->Γ->Prop}{a:Act}(e:bodyPost prog fn post .ret a w->Q .ret a w)(g:Nat)(y:V)
 (c:a.tmps.getD p undef=π g) (hd:a.defers=[]) (d:w.heap[g]?=some (.cells #[β y.l,σ y.ba y.bn y.bc,σ y.ia y.m y.ic] 108)) (b:post (ω (γ #[β y.l,σ y.ba y.bn y.bc,σ y.ia y.m y.ic])) w):
 Code.wp prog .ret Q a w:=
 wp_ret (e<|Aq (Be h _ _ g 108 _ (0,0) _ c d υ108 rfl (by kernel_rfl)) hd b)
theorem P4(d:Λ w w'){t:T}{y:V}(h:LiesP (λb=>base<=b) w t y):LiesP (λb=>base<=b) w' t y:=BD (λb a c=>⟨d.block b c,a⟩) _ _ h
theorem DY{t:T}{e:Ending}(h:IPost w t e w')(f:base<=w.heap.size):∃val,e=ω val/\(Λ w w'/\∃y:V,val=γ #[β y.l,σ y.ba y.bn y.bc,σ y.ia y.m y.ic]/\LiesP (λb=>base<=b) w' t y):=by
 obtain⟨⟨y,d,g⟩,a⟩:=h;exact⟨_,d,a,y,rfl,BD (λb c i=>⟨rfl,Au f c⟩) _ _ g⟩
theorem JU(a:Ω)(n c:Nat)(b:τ)(w:Γ)(h:Ag w a n c b)(d:n<=140737488351232):Calls prog 58 #[σ a n c] w (IPost w (.mk false b [])):=by
 refine(Fk a n c b w h d).mono ?_;rintro e w'⟨rfl,f,g⟩;exact⟨⟨⟨false,some ⟨w.heap.size+1,0,none⟩,n,n,none,0,0⟩,rfl,Gs f h.l h.b d (by omega)⟩,g⟩
theorem QN(K:Θ)(x:NV)(n:PN)(w:Γ)(h:NodeAt K w x n)(ae:n.ks.length<=100)(U:n.p.length<=1000):
 Calls prog 89 #[γ x.cells.toArray] w (IPost w (itemP n)):=by
 have aj:=Aa (W8 w x h.c.len);have D:=Aa h;have ao:=Aa ae;have am:=Aa U;have av:x.pn<=1000:=by rw[<-h.p.l];exact U
 have ar:=h.v.2.1;obtain⟨ah,E⟩:∃ah,itemP n=ah:=⟨_,rfl⟩;rw[E];unfold itemP at E;rw[<-h.k]at E;have L:=Aa E;clear h ae U E;go_enter func89,ntmps89;go_upto_region 1 with fail;refine gen_w (p:=λv=>Code.wp _ _ _ _ v) (q:=λv=>Nn w v x) aj.out ?_;clear aj;intro v Q;have c0:=Q.bx.c0;have c1:=Q.bx.c1;have B:=Aa Q;clear Q;by_cases h3:x.k=3
 ·have g:=L.out;rw[Ai h3]at g;subst g;have ap:=Aa (LS K x n v (D.out.go (Keep.below B.out.bel)) ao.out);go_wp2_with (first|refine CC rfl _ rfl w.heap.size rfl x B.out.bx ?_);refine ap.out.mono ?_;rintro e w1⟨⟨y,rfl,C⟩,l⟩;have j:=B.out.go l;have x0:=j.x0;have x1:=j.x1;have x2:=j.x2;have xf:=j.xf;have a:=Aa j;have HY:=Aa (show LiesP (λb=>w.heap.size+2<=b) w1 _ y from BD (λb o M=>⟨rfl,Au B.out.sz o⟩) _ _ C);clear j C l c0 c1;go_wp2_with fail;have g:=put3 a.out.row (β y.l) (σ y.ba y.bn y.bc) (σ y.ia y.m y.ic);refine Aq (Be results89 _ _ (w.heap.size+1) 108 _ (0,0) _ rfl g υ108 rfl (by kernel_rfl)) rfl ?_;exact GA a.out HY.out
 ·have e3:(x.k==3)=false:=by simp[h3]
  obtain⟨u,al⟩:∃u,(x.k==1)=u:=⟨_,rfl⟩;have Y:=Aa (Ni.pack_any x.pa x.pn x.pc n.p u v (D.out.p.1.at B.out.bel) (by omega));have N:=Aa al;obtain⟨pk,O⟩:∃pk,(packP n.p u).1=pk:=⟨_,rfl⟩;rw[O]at Y;have ab:=Aa O
  have ak:=Aa (show pk.length<=1000 from by
   rw[<-O];unfold packP;split
   ·dsimp only;rw[Ni.pack_len];have:=am.out;omega
   ·simp)
  obtain⟨ad,ac⟩:∃ad:Nat,(packP n.p u).2=ad:=⟨_,rfl⟩;rw[ac]at Y;clear O ac;go_wp2_with fail;refine Y.out.mono ?_;rintro e w1⟨⟨a',m,rfl,W⟩,l⟩;have j:=B.out.go l;have d0:=j.bx.c0;have af:=Aa (show m<=140737488351232 from by have:=W.l;have:=ak.out;omega);have ai:=Aa W;have a:=Aa j;have g:=L.out;rw[Ae h3]at g;clear W l j c0 c1;by_cases I:x.k=1
  ·rw[Ai I]at g;have M:u=true:=(by rw[<-N.out,I];rfl);subst M;rw[ab.out]at g;subst g;clear N L;have aq:Nn w w1 x:=a.out;go_upto_region 5 with fail;rename_i KK X;refine Cj (S:=λv'=>NBx w.heap.size v' x/\Λ w v') (by kernel_rfl) ⟨⟨a.out.bx.row,a.out.bx.l⟩,a.out.bel.drew⟩ (λA=>?_);have k:Nn w w1.drew x:=⟨a.out.row,⟨a.out.bx.row,a.out.bx.l⟩,a.out.bel.drew,a.out.sz⟩;refine Br 0 22 (σ a' m m) rfl rfl (by kernel_rfl) (by kernel_rfl) (by kernel_rfl) (λ_ _ _ h=>h) (by kernel_rfl) (λv _=>by kernel_rfl) A<|Br 2 24 (.pointer (some ⟨w.heap.size,2,none⟩)) rfl rfl (by kernel_rfl) (by kernel_rfl) (by kernel_rfl) (λ_ _ _ h=>h) (by kernel_rfl) (λv _=>by kernel_rfl) A<|Br 3 25 (σ x.va x.vn x.vc) rfl rfl (by kernel_rfl) (by kernel_rfl) (by kernel_rfl) (λ_ _ _ h=>h) (by kernel_rfl) (λv' hv=>FN rfl (by kernel_rfl) hv.1.c2) A<|AD (rs:=[1]) (by kernel_rfl) (by simp) ?_;refine Es 1 23 rfl rfl (by kernel_rfl) 58 #[σ a' m m] (by kernel_rfl) (R:=λval w'=>Below w1.drew.heap.size w1.drew w'/\∃y:V,val=γ #[β y.l,σ y.ba y.bn y.bc,σ y.ia y.m y.ic]/\LiesP (λb=>w.heap.size+2<=b) w' (.mk false pk []) y) ((JU a' m m pk w1.drew (ai.out.at (Ac _ _).drew) af.out).mono (λe w' h=>DY h k.sz)) (λval w' h=>⟨(k.go h.1).bx,(k.go h.1).bel⟩) ?_ AB;rintro val J⟨l,s,rfl,t⟩;have i:=k.go l;refine AD (rs:=[4]) (by kernel_rfl) (by simp) ?_;refine Es 4 26 rfl rfl (by kernel_rfl) 58 #[σ x.va x.vn x.vc] (by kernel_rfl) (R:=λval w'=>Λ J w'/\∃y:V,val=γ #[β y.l,σ y.ba y.bn y.bc,σ y.ia y.m y.ic]/\LiesP (λb=>w.heap.size+2<=b) w' (.mk false n.v []) y) ((JU x.va x.vn x.vc n.v J (D.out.v.1.at i.bel) D.out.v.2.1).mono (λe w' h=>DY h i.sz)) (λval w' h=>⟨(i.go h.1).bx,(i.go h.1).bel⟩) ?_ AB;rintro val f⟨F,r,rfl,Z⟩;have G:=i.go F;have t:=P4 F t;refine AD (rs:=[5]) (by kernel_rfl) (by simp) ?_;have d:Nn w (f.alloc (.cells (two s r) 108)) x:=G.go (below_new _ _);refine CE 5 27 (σ (some ⟨f.heap.size,0,none⟩) 2 2) rfl rfl (by kernel_rfl) (MX rfl s r (by kernel_rfl) (by kernel_rfl)) ⟨d.bx,d.bel⟩ ?_ AB;refine AD (rs:=[6]) (by kernel_rfl) (by simp) ?_
   refine Es 6 28 rfl rfl (by kernel_rfl) 128 #[σ (some ⟨f.heap.size,0,none⟩) 2 2] (by kernel_rfl) (R:=λval w'=>Below (f.alloc (.cells (two s r) 108)).heap.size (f.alloc (.cells (two s r) 108)) w'/\∃y:V,val=γ #[β y.l,σ y.ba y.bn y.bc,σ y.ia y.m y.ic]/\LiesP (λb=>w.heap.size+2<=b) w' (.mk true [] [.mk false pk [], .mk false n.v []]) y)
    ((JS (λb=>w.heap.size+2<=b) (some ⟨f.heap.size,0,none⟩) 2 2 [.mk false pk [], .mk false n.v []] ⟨rfl,Ab _,by unfold maxLen;omega,by omega⟩ _ (Pz G.sz t Z) (λe=>by cases e) (λb o=>Au d.sz o)).mono (λe w' h=>by
      obtain⟨⟨y,P,C⟩,o⟩:=h;exact⟨_,P,o,y,rfl,C⟩)) (λval w' h=>⟨(d.go h.1).bx,(d.go h.1).bel⟩) ?_ AB
   rintro val H⟨aa,z,rfl,hz⟩;have c:=d.go aa;have T:NBx w.heap.size (((H.setCell ⟨w.heap.size+1,0,none⟩ (β z.l)).setCell ⟨w.heap.size+1,1,none⟩ (σ z.ba z.bn z.bc)).setCell ⟨w.heap.size+1,2,none⟩ (σ z.ia z.m z.ic)) x/\Λ w (((H.setCell ⟨w.heap.size+1,0,none⟩ (β z.l)).setCell ⟨w.heap.size+1,1,none⟩ (σ z.ba z.bn z.bc)).setCell ⟨w.heap.size+1,2,none⟩ (σ z.ia z.m z.ic)):=⟨⟨(Dk (by omega) _ _ _).trans c.bx.row,c.bx.l⟩,Ci c.bel (by omega) _ _ _⟩;refine AD (rs:=[7]) (by kernel_rfl) (by simp) ?_;refine DF 7 rfl rfl (by kernel_rfl) (MY rfl (w.heap.size+1) z (by kernel_rfl) (by kernel_rfl) c.x0 c.x1 c.x2 c.xf) T ?_ AB;refine Cq (by kernel_rfl) ?_ _;refine X _ _<|P2 results89 (λh=>h) (w.heap.size+1) z (by kernel_rfl) (by kernel_rfl) (put3 c.row _ _ _) ?_;exact GA c hz
  ·rw[Ae I]at g;have M:u=false:=(by rw[<-N.out];simp[I]);subst M;rw[ab.out]at g;subst g;have P:(x.k==1)=false:=(by simp[I]);clear N L;go_upto_region 6 with fail;rename_i KK X;refine Cj (S:=λv'=>NBx w.heap.size v' x/\Λ w v') (by kernel_rfl) ⟨⟨a.out.bx.row,a.out.bx.l⟩,a.out.bel.drew⟩ (λA=>?_);have k:Nn w w1.drew x:=⟨a.out.row,⟨a.out.bx.row,a.out.bx.l⟩,a.out.bel.drew,a.out.sz⟩;refine Br 0 29 (σ a' m m) rfl rfl (by kernel_rfl) (by kernel_rfl) (by kernel_rfl) (λ_ _ _ h=>h) (by kernel_rfl) (λv _=>by kernel_rfl) A<|Br 2 31 (.pointer (some ⟨w.heap.size,3,none⟩)) rfl rfl (by kernel_rfl) (by kernel_rfl) (by kernel_rfl) (λ_ _ _ h=>h) (by kernel_rfl) (λv _=>by kernel_rfl) A<|Br 3 32 (γ x.c.cells.toArray) rfl rfl (by kernel_rfl) (by kernel_rfl) (by kernel_rfl) (λ_ _ _ h=>h) (by kernel_rfl) (λv' hv=>Gn rfl (by kernel_rfl) D.out.c.len hv.1.child) A<|AD (rs:=[1]) (by kernel_rfl) (by simp) ?_;refine Es 1 30 rfl rfl (by kernel_rfl) 58 #[σ a' m m] (by kernel_rfl) (R:=λval w'=>Below w1.drew.heap.size w1.drew w'/\∃y:V,val=γ #[β y.l,σ y.ba y.bn y.bc,σ y.ia y.m y.ic]/\LiesP (λb=>w.heap.size+2<=b) w' (.mk false pk []) y) ((JU a' m m pk w1.drew (ai.out.at (Ac _ _).drew) af.out).mono (λe w' h=>DY h k.sz)) (λval w' h=>⟨(k.go h.1).bx,(k.go h.1).bel⟩) ?_ AB;rintro val J⟨l,s,rfl,t⟩;have i:=k.go l;refine AD (rs:=[4]) (by kernel_rfl) (by simp) ?_;refine Es 4 33 rfl rfl (by kernel_rfl) 129 #[γ x.c.cells.toArray] (by kernel_rfl) (R:=λval w'=>Λ J w'/\∃y:V,val=γ #[β y.l,σ y.ba y.bn y.bc,σ y.ia y.m y.ic]/\LiesP (λb=>w.heap.size+2<=b) w' (refItemP n.c) y) ((Ks K x.c n.c J (D.out.c.go (Keep.below i.bel))).mono (λe w' h=>DY h i.sz)) (λval w' h=>⟨(i.go h.1).bx,(i.go h.1).bel⟩) ?_ AB;rintro val f⟨F,r,rfl,Z⟩;have G:=i.go F;have t:=P4 F t;refine AD (rs:=[5]) (by kernel_rfl) (by simp) ?_;have d:Nn w (f.alloc (.cells (two s r) 108)) x:=G.go (below_new _ _);refine CE 5 34 (σ (some ⟨f.heap.size,0,none⟩) 2 2) rfl rfl (by kernel_rfl) (MX rfl s r (by kernel_rfl) (by kernel_rfl)) ⟨d.bx,d.bel⟩ ?_ AB;refine AD (rs:=[6]) (by kernel_rfl) (by simp) ?_
   refine Es 6 35 rfl rfl (by kernel_rfl) 128 #[σ (some ⟨f.heap.size,0,none⟩) 2 2] (by kernel_rfl) (R:=λval w'=>Below (f.alloc (.cells (two s r) 108)).heap.size (f.alloc (.cells (two s r) 108)) w'/\∃y:V,val=γ #[β y.l,σ y.ba y.bn y.bc,σ y.ia y.m y.ic]/\LiesP (λb=>w.heap.size+2<=b) w' (.mk true [] [.mk false pk [],refItemP n.c]) y)
    ((JS (λb=>w.heap.size+2<=b) (some ⟨f.heap.size,0,none⟩) 2 2 [.mk false pk [],refItemP n.c] ⟨rfl,Ab _,by unfold maxLen;omega,by omega⟩ _ (Pz G.sz t Z) (λe=>by cases e) (λb o=>Au d.sz o)).mono (λe w' h=>by
      obtain⟨⟨y,P,C⟩,o⟩:=h;exact⟨_,P,o,y,rfl,C⟩)) (λval w' h=>⟨(d.go h.1).bx,(d.go h.1).bel⟩) ?_ AB
   rintro val H⟨aa,z,rfl,hz⟩;have c:=d.go aa;have T:NBx w.heap.size (((H.setCell ⟨w.heap.size+1,0,none⟩ (β z.l)).setCell ⟨w.heap.size+1,1,none⟩ (σ z.ba z.bn z.bc)).setCell ⟨w.heap.size+1,2,none⟩ (σ z.ia z.m z.ic)) x/\Λ w (((H.setCell ⟨w.heap.size+1,0,none⟩ (β z.l)).setCell ⟨w.heap.size+1,1,none⟩ (σ z.ba z.bn z.bc)).setCell ⟨w.heap.size+1,2,none⟩ (σ z.ia z.m z.ic)):=⟨⟨(Dk (by omega) _ _ _).trans c.bx.row,c.bx.l⟩,Ci c.bel (by omega) _ _ _⟩;refine AD (rs:=[7]) (by kernel_rfl) (by simp) ?_;refine DF 7 rfl rfl (by kernel_rfl) (MY rfl (w.heap.size+1) z (by kernel_rfl) (by kernel_rfl) c.x0 c.x1 c.x2 c.xf) T ?_ AB;refine Cq (by kernel_rfl) ?_ _;refine X _ _<|P2 results89 (λh=>h) (w.heap.size+1) z (by kernel_rfl) (by kernel_rfl) (put3 c.row _ _ _) ?_;exact GA c hz
end
def NEP(n:PN):τ×Nat:=if NR n=true then(NE n,0)else([],50)
theorem LT{n:PN}(h:NR n=true):n.ks.length<=100/\n.p.length<=1000:=by
 rcases EA h with⟨_,b,_,_,_,_,_,a⟩|⟨_,_,d,_,_,_,_,a⟩|⟨_,b,_,_,_,c,_,_⟩
 ·rw[a];exact⟨by simp,by omega⟩
 ·rw[a];exact⟨by simp,by omega⟩
 ·rw[b];exact⟨by omega,by simp⟩
def EPost(w:Γ)(r:τ×Nat):Ending->Γ->Prop:=λe w'=>(∃a m c,e=ω (θ #[σ a m c,ι (r.2:Nat)])/\Ag w' a m c r.1/\Fr w.heap.size w' a m)/\Λ w w'
theorem Kv(K:Θ)(x:NV)(n:PN)(w:Γ)(h:NodeAt K w x n):
 Calls prog 62 #[γ x.cells.toArray] w (EPost w (NEP n)):=by
 have B:=EC w x h.c.len;have b:=Aa (below_new w (.cells x.cells.toArray 121));have HR:=Aa (show∀v,Λ w v->Calls prog 88 #[γ x.cells.toArray] v λe w'=>e=ω (β (NR n))/\Λ v w' from λv W=>QL K x n v (h.go (Keep.below W)));obtain⟨q,f⟩:∃q,NR n=q:=⟨_,rfl⟩;have F:=Aa f;have J:=Aa h;rw[f]at HR;obtain⟨z,d⟩:∃z,NEP n=z:=⟨_,rfl⟩;rw[d];unfold NEP at d;rw[f]at d;have L:=Aa d;clear h f d;go_enter func62,ntmps62;go_upto_region 1 with fail;refine gen_w (p:=λv=>Code.wp _ _ _ _ v) (q:=λv=>NBx w.heap.size v x/\Λ w v) ⟨B,b.out⟩ ?_;clear B b;rintro v⟨B,E⟩;have b:=Aa E;have o:=Aa B;clear E B;go_wp2_with (first|refine CC rfl _ rfl w.heap.size rfl x o.out ?_);refine(HR.out v b.out).mono ?_;rintro e w1⟨rfl,l⟩;have R:=Aa (o.out.go l);have k:=Aa (below_go b.out l);clear l o b;have i:=L.out;cases q with
 |false=>
  rw[Ae (by simp)]at i;subst i;go_wp2_with fail;go_ret2;exact⟨⟨none,0,0,rfl,⟨.inl ⟨rfl,rfl⟩,λ_=>⟨rfl,rfl⟩,rfl,λx V=>by cases V⟩,λg off e=>by cases e⟩,k.out⟩
 |true=>
  rw[Ai rfl]at i;subst i;obtain⟨I,G⟩:=LT F.out;have Q:=Aa (QN K x n w1 (J.out.go (Keep.below k.out)) I G);obtain⟨C,U,T⟩:=Ek J.out.okN F.out;have M:=Aa (Gl C);clear I G C U T;go_wp2_with (first|refine CC rfl _ rfl w.heap.size rfl x R.out ?_);refine Q.out.mono ?_;rintro e X⟨⟨y,rfl,H⟩,u⟩;have s:=Aa (IF (itemP n) y X (CS _ _ H));rw[M.out]at s;have t:=Aa (below_go k.out u);clear H u;go_wp2_with fail;refine s.out.mono ?_;rintro e S⟨⟨a,m,c,rfl,r,j⟩,A⟩;have N:=Aa (below_go t.out A);have P:=Aa r;have O:=Aa (show Fr w.heap.size S a m from λg off e D=>⟨Au t.out.size (j g off e D).1,(j g off e D).2⟩);clear r j A;go_wp2_with fail;go_ret2;exact⟨⟨a,m,c,rfl,P.out,O.out⟩,N.out⟩
theorem Kw{fn:Func}{p:Tmp}(h:fn.results=#[.cell p 118])(a:Ξ)(w:Γ)(g:Nat)(y:RV)(d:y.d.length=32)(b:a.getD p undef=π g)(c:w.heap[g]?=some (.cells y.cells.toArray 118)):
 (results fn a).run prog w= .ok (γ y.cells.toArray) w:=
 Be h a w g 118 y.cells.toArray (0,0) _ b c υ118 rfl (CD d)
theorem P5(a:Ω)(n c:Nat)(b:τ)(w:Γ)(h:Ag w a n c b)(H:n<32):
 Calls prog 150 #[σ a n c] w λe w'=>(∃y:RV,e=ω (γ y.cells.toArray)/\RefAt (Own w.heap.size w') w' y ⟨1,z32,b⟩)/\Λ w w':=by
 have E:=run_make_row' (P:=prog) 32 5 (η 0) 1 υ32 info5b rfl .i64 .i64 n (by omega) (by omega);obtain⟨w0,d⟩:∃w0,w.alloc (.cells rz.cells.toArray 118)=w0:=⟨_,rfl⟩;have u:w0.heap.size=w.heap.size+1:=by rw[<-d];simp
 have j:Λ w w0:=by rw[<-d];exact below_new _ _
 have p:w0.heap[w.heap.size]?=some (.cells rz.cells.toArray 118):=by rw[<-d];exact Ak _ _
 have r:Row w0.heap.size (w0.alloc (.cells (madeCells #[η 0] n) 5)) (List.replicate n 0):=by
  unfold Row;rw[Ak,made_bytes]
 have f:Λ w (w0.alloc (.cells (madeCells #[η 0] n) 5)):=j.alloc (by omega) _;obtain⟨w1,m,i,k⟩:=Lo (o:=0) (dl:=n) (dc:=n) (da:=some ⟨w0.heap.size,0,none⟩) r (h.at f) rfl (by simp) (λ_=>rfl);rw[BM,AH,A6,Bx (by simp),A7]at i;have l:w1.heap[w.heap.size]?=some (.cells rz.cells.toArray 118):=(k.block _ (by simp;omega) (by omega)).trans ((Ax _ _ _ (by omega)).trans p);have v:=Touch.below f k (by omega) f.size;have z:=Aa m;have x:=Aa i;have D:=Aa v;have q:=Aa l;have F:=Aa j;have t:=Aa u;have B:=Aa h.l;have C:=Aa h.b;have G:¬(n:Int)>=32:=by omega
 clear r m i k f h j p l v u;go_enter func150,ntmps150;go_upto_region 1 with fail;rw[show(w.alloc (.cells #[ι 0,η 0,η 0,η 0,η 0,η 0,η 0,η 0,η 0,η 0,η 0,η 0,η 0,η 0,η 0,η 0,η 0,η 0,η 0,η 0,η 0,η 0,η 0,η 0,η 0,η 0,η 0,η 0,η 0,η 0,η 0,η 0,η 0,ε] 118))=w0 from d];clear d;go_wp2_with (first|refine wpl_copy rfl _ _ rfl _ _ rfl rfl (z.out _) ?_|refine A5 rfl 118 _ _ rfl _ (RV.cells ⟨1,z32,some ⟨w0.heap.size,0,none⟩,n,n⟩).toArray rfl rfl 118 _ q.out (CD rfl) (CL rfl) (Am (RV.one _)) ?_);refine Aq (Kw results150 _ _ w.heap.size ⟨1,z32,some ⟨w0.heap.size,0,none⟩,n,n⟩ rfl rfl (AC _ _ _ _ _ _ q.out)) rfl ?_;have A:w0.heap.size≠w.heap.size:=by have:=t.out;omega
 have s:Row w0.heap.size (w1.setRow w.heap.size (RV.cells ⟨1,z32,some ⟨w0.heap.size,0,none⟩,n,n⟩).toArray) b:=(Bc _ _ _ _ A).trans x.out;refine⟨⟨⟨1,z32,some ⟨w0.heap.size,0,none⟩,n,n⟩,rfl,rfl,rfl,Js,rfl,row_ag (n:=n) s B.out C.out (by omega),by show n<=_;omega,λg off e _=>?_⟩,Below.setRow D.out (Ab _) _⟩;cases e;exact⟨by have:=t.out;omega,λo=>AN _ _ _ _ _ s⟩
section
open Di (dref)
theorem Uc:(λ(d0 C w x B y E D A z s u l g b t j k h n d e c a m r f v o p i q:Int)=>prog.built 118 [(0,ι 2),(1,γ (B8 [d0,C,w,x,B,y,E,D,A,z,s,u,l,g,b,t,j,k,h,n,d,e,c,a,m,r,f,v,o,p,i,q]))])=λd0 C w x B y E D A z s u l g b t j k h n d e c a m r f v o p i q=>some (RV.cells ⟨2,[d0,C,w,x,B,y,E,D,A,z,s,u,l,g,b,t,j,k,h,n,d,e,c,a,m,r,f,v,o,p,i,q],none,0,0⟩).toArray:=by kernel_rfl
theorem JV(ds:τ)(h:ds.length=32):prog.built 118 [(0,ι 2),(1,γ (B8 ds))]=some (RV.cells ⟨2,ds,none,0,0⟩).toArray:=by
 match ds,h with
 |[d0,d1,d2,d3,d4,d5,d6,d7,d8,d9,d10,d11,d12,d13,d14,d15,d16,d17,d18,d19,d20,d21,d22,d23,d24,d25,d26,d27,d28,d29,d30,d31],_=>
  have e:=Uc;have e:=AK e d0;have e:=AK e d1;have e:=AK e d2;have e:=AK e d3;have e:=AK e d4;have e:=AK e d5;have e:=AK e d6;have e:=AK e d7;have e:=AK e d8;have e:=AK e d9;have e:=AK e d10;have e:=AK e d11;have e:=AK e d12;have e:=AK e d13;have e:=AK e d14;have e:=AK e d15;have e:=AK e d16;have e:=AK e d17;have e:=AK e d18;have e:=AK e d19;have e:=AK e d20;have e:=AK e d21;have e:=AK e d22;have e:=AK e d23;have e:=AK e d24;have e:=AK e d25;have e:=AK e d26;have e:=AK e d27;have e:=AK e d28;have e:=AK e d29;have e:=AK e d30;have e:=AK e d31;exact e
theorem YX{a:Act}{w:Γ}{o:Oper}(b:o.op= .buildSlice 32 0 #[]):(execOp a.eval o).run prog w= .ok (.value (σ (some ⟨w.heap.size,0,none⟩) 0 0)) (w.alloc (.cells #[] 5)):=by
 unfold execOp;rw[b];go_simp
theorem Oj{fn:Func}{p:Tmp}(h:fn.results=#[.cell p 118]){post:Ending->Γ->Prop}{Q:Exit->Act->Γ->Prop}{a:Act}{w:Γ}(f:bodyPost prog fn post .ret a w->Q .ret a w)(g:Nat)(y:RV)(e:y.d.length=32)
 (c:a.tmps.getD p undef=π g) (hd:a.defers=[]) (d:w.heap[g]?=some (.cells y.cells.toArray 118)) (b:post (ω (γ y.cells.toArray)) w):
 Code.wp prog .ret Q a w:=wp_ret (f<|Aq (Kw h _ _ g y e c d) hd b)
def referP(b:τ):PR:=if b.length<32 then⟨1,z32,b⟩else⟨2,dref b,[]⟩
def RfPost(w:Γ)(b:τ):Ending->Γ->Prop:=λe w'=>(∃y:RV,e=ω (γ y.cells.toArray)/\RefAt (Own w.heap.size w') w' y (referP b))/\Λ w w'
theorem JW(a:Ω)(n c:Nat)(b:τ)(w:Γ)(h:Ag w a n c b)(z:n<=140737488351232):Calls prog 150 #[σ a n c] w (RfPost w b):=by
 have x:=h.l;by_cases u:n<32
 ·have f:referP b=⟨1,z32,b⟩:=by unfold referP;rw[Ai (by omega)]
  unfold RfPost;rw[f];exact P5 a n c b w h u
 ·have f:referP b=⟨2,dref b,[]⟩:=by unfold referP;rw[Ae (by omega)]
  unfold RfPost;rw[f];have B:(n:Int)>=32:=by omega
  have k:=Aa (λv(A:Λ w v)=>KN a n c b v (h.at A) z);have d:=Aa (dref_len b);have l:=Aa (GS b);obtain⟨ds,j⟩:∃ds,dref b=ds:=⟨_,rfl⟩;rw[j]at k d l⊢;clear f h x j;go_enter func150,ntmps150;go_upto_region 1 with fail;refine gen_w (p:=λv=>Code.wp _ _ _ _ v) (q:=λv=>v.heap[w.heap.size]?=some (.cells rz.cells.toArray 118)/\Λ w v) ⟨Ak _ _,below_new _ _⟩ ?_;rintro v⟨i,o⟩;have s:=Aa i;have r:=Aa o;clear i o;go_upto_region 2 with fail;rename_i C t;refine CX<|B9 7 (σ a n c) rfl (by kernel_rfl) (by kernel_rfl)<|KH 8 rfl (by kernel_rfl) 35 #[σ a n c] (by kernel_rfl) (R:=λval w'=>val=γ (B8 ds)/\Λ v w') ((k.out v r.out).mono (λe w' h=>⟨_,h.1,rfl,h.2⟩)) ?_;rintro val w1⟨rfl,m⟩;have g:=Below.row m s.out;refine B9 9 (γ (RV.cells ⟨2,ds,none,0,0⟩).toArray) rfl (by kernel_rfl) (Eh 118 _ rfl [(0,ι 2),(1,γ (B8 ds))] (by kernel_rfl) _ (JV ds d.out))<|Fw rfl (by kernel_rfl) (D1 118 _ _ rfl w.heap.size (RV.cells ⟨2,ds,none,0,0⟩).toArray (by kernel_rfl) (by kernel_rfl) 118 rz.cells.toArray g (CD d.out) (CL d.out) (Am (RV.one _)))<|t _ _<|Oj (post:=λe w'=>(∃y:RV,e=ω (γ y.cells.toArray)/\RefAt (Own w.heap.size w') w' y ⟨2,ds,[]⟩)/\Λ w w') results150 (λh=>h) w.heap.size ⟨2,ds,none,0,0⟩ d.out (by kernel_rfl) (by kernel_rfl) (AC _ _ _ _ _ _ g) ?_;exact⟨⟨⟨2,ds,none,0,0⟩,rfl,rfl,rfl,l.out,d.out,Fx _ _⟩,Below.setRow (below_go r.out m) (Ab _) _⟩
end
section
open Tr
variable {w w' : World} {gW base g n c : Nat} {vN vN' v0 : Value} {X K Z : Nat → Prop} {ns : List (List Int)} {a : Option Addr} {fn : Func} {p : Tmp} {T0 : TypeId} {y : RV} {r : PR}
namespace Tr
def encT:Tr->τ
 |no=>[]
 |leaf p v=>(NEP ⟨1,p,v,r0,[]⟩).1
 |ext p c=>(NEP ⟨2,p,[],referP (encT c),[]⟩).1
 |br k x=>(NEP ⟨3,[],x,r0,(List.range 16).map λi=>if(k i).isNo then r0 else referP (encT (k i))⟩).1
def nm1(b:τ):List τ:=if b.length<32 then[]else[b]
def nmd:Tr->List τ
 |no=>[]
 |leaf _ _=>[]
 |ext _ c=>nmd c++nm1 (encT c)
 |br k _=>(List.range 16).flatMap λi=>if(k i).isNo then[]else nmd (k i)++nm1 (encT (k i))
end Tr
def nodeP:Tr->PN
 |no=>n0
 |leaf p v=>⟨1,p,v,r0,[]⟩
 |ext p c=>⟨2,p,[],referP (encT c),[]⟩
 |br k x=>⟨3,[],x,r0,(List.range 16).map λi=>if(k i).isNo then r0 else referP (encT (k i))⟩
theorem DU{t:Tr}(h:t≠no):encT t=(NEP (nodeP t)).1:=by
 cases t with
 |no=>exact absurd rfl h
 |leaf p v=>rfl
 |ext p c=>rfl
 |br k x=>rfl
def KW(gW:Nat)(vN:Δ)(X:Θ):Θ:=λb=>b≠gW/\vN.ownBlock≠some b/\X b
def RowS(K:Θ)(w:Γ)(vals:List Δ)(ns:List τ):Prop:=vals.length=ns.length/\∀j v,vals[j]?=some v->∃a n c,v=σ a n c/\Sk K w a n c (ns.getD j [])
structure Wt(w:Γ)(gW base:Nat)(vN:Δ)(X:Θ)(ns:List τ):Prop where
 r:Rw gW w #[vN] 77
 o:∃vals,w.ownsRow base 32 1 vN ns.length vals/\RowS (KW gW vN X) w vals ns
 b:base<=gW
structure Wg(w w':Γ)(gW:Nat)(vN vN':Δ):Prop where
 os:w'.os=w.os
 tape:w'.tape=w.tape
 output:w'.output=w.output
 size:w.heap.size<=w'.heap.size
 block:∀k,k<w.heap.size->k≠gW->vN.ownBlock≠some k->w'.heap[k]?=w.heap[k]?
 own:vN'.ownBlock=vN.ownBlock∨∀k,vN'.ownBlock=some k->w.heap.size<=k
theorem Wg.of_below(h:Bl w w'):Wg w w' gW vN vN:=⟨Below.os h,Below.tape h,Below.output h,h.size,λk a _ _=>BF h k a, .inl rfl⟩
theorem Wg.trans{w1 i:Γ}{v f d:Δ}(h:Wg w w1 gW v f)(g:Wg w1 i gW f d):Wg w i gW v d:=by
 refine⟨g.os.trans h.os,g.tape.trans h.tape,g.output.trans h.output,Au h.size g.size,λk a j c=>?_,?_⟩
 ·refine(g.block k (BQ a h.size) j ?_).trans (h.block k a j c);rcases h.own with e|e
  ·rw[e];exact c
  ·intro q;have:=e k q;omega
 ·rcases g.own with e|e
  ·rcases h.own with b|b
   ·exact .inl (e.trans b)
   ·exact .inr (λk a=>b k (e▸a))
  ·exact .inr (λk a=>Au h.size (e k a))
theorem Wg.row(h:Wg w w' gW vN vN')(c:Wt w gW base vN X ns){cells:Ξ}{T:TypeId}{d:Nat×Nat}(a:w.heap[g]?=some (.cells cells T d))(j:T≠32)(i:T≠77):w'.heap[g]?=some (.cells cells T d):=by
 refine(h.block g (lt_of_get a) ?_ ?_).trans a
 ·rintro rfl;have:=c.r;rw[Rw,a]at this;simp at this;exact i this.2.1
 ·intro e;obtain⟨k,⟨_,f⟩,_⟩:=c.o;rcases f with⟨rfl,_⟩|⟨g',cap,cur,rfl,_,b,_⟩
  ·cases e
  ·have e:g'=g:=(by simpa[Value.ownBlock]using e);subst e;rw[a]at b;simp at b;exact j b.2.1
theorem Sk.wg{bs:τ}(h:Sk (KW gW vN X) w a n c bs)(g:Wg w w' gW vN vN'):Sk (KW gW vN' X) w' a n c bs:=by
 refine⟨⟨?_,h.ag.nil,h.ag.l,h.ag.b⟩,λx m o=>?_⟩
 ·rcases h.ag.i with d|⟨gb,off,d,i,l,p,r,k⟩
  ·exact .inl d
  ·refine .inr ⟨gb,off,d,i,l,p,r,λj f=>?_⟩;rw[<-k j f];have b:=h.k _ d l;exact Av (g.block gb (Al (k j f)) b.1 b.2.1)
 ·have b:=h.k x m o;refine⟨b.1,?_,b.2.2⟩;rcases g.own with e|e
  ·rw[e];exact b.2.1
  ·intro q;have d:=e _ q;have i:=h.old m o;omega
theorem TA.wg(g:Wg w w' gW vN vN'):∀{t:Tr}{v:Δ},TA (KW gW vN X) w t v->TA (KW gW vN' X) w' t v:=by
 intro t
 induction t with
 |no=>intro v h;exact h
 |leaf p x=>rintro v⟨a,n,c,a',n',c',d,b,e,j⟩;exact⟨a,n,c,a',n',c',d,b.wg g,e.wg g,j⟩
 |ext p t f=>rintro v⟨a,n,c,u,d,b,e⟩;exact⟨a,n,c,u,d,b.wg g,f e⟩
 |br k x f=>rintro v⟨vs,a,n,c,d,b,e,j⟩;exact⟨vs,a,n,c,d,λi l=>f i (b i l),e.wg g,j⟩
theorem TK.wg{k:Nat->Tr}{vs:Nat->Δ}(h:TK (KW gW vN X) w k vs)(g:Wg w w' gW vN vN'):TK (KW gW vN' X) w' k vs:=λi a=>(h i a).wg g
theorem Rw.wg{cells:Ξ}{T:TypeId}(h:Rw g w cells T)(c:Wg w w' gW vN vN')(b:Wt w gW base vN X ns)(a:T≠32)(d:T≠77):Rw g w' cells T:=c.row b h a d
theorem Wt.go(h:Wt w gW base vN X ns)(b:Λ w w'):Wt w' gW base vN X ns:=by
 obtain⟨i,f,m,p⟩:=h.o
 refine⟨h.r.go b,⟨i,⟨f.1,by
  rcases f.2 with q|⟨g,cap,cur,k,s,d,o⟩
  ·exact .inl q
  ·exact .inr ⟨g,cap,cur,k,s,(b.block g (lt_of_get d)).trans d,o⟩⟩,m,λj v l=>?_⟩,h.b⟩
 obtain⟨a,n,c,e,r⟩:=p j v l;exact⟨a,n,c,e,r.go b⟩
theorem Wt.lt(h:Wt w gW base vN X ns):gW<w.heap.size/\∀k,vN.ownBlock=some k->k<w.heap.size:=by
 refine⟨lt_of_get h.r,λk a=>?_⟩;obtain⟨d,⟨_,c⟩,_⟩:=h.o;rcases c with⟨rfl,_⟩|⟨g',cap,cur,rfl,_,b,_⟩
 ·cases a
 ·have e:g'=k:=by simpa[Value.ownBlock]using a
  subst e;exact lt_of_get b
theorem Wg.keep(g:Wg w w' gW vN vN'):Keep (KW gW vN X) (KW gW vN' X) w w':=λb a c=>⟨g.block b c a.1 a.2.1,a.1,by
 rcases g.own with e|e
 ·rw[e];exact a.2.1
 ·intro q;have:=e b q;omega,a.2.2⟩
theorem Wg.go{a b c:Γ}(h:Wg a b gW vN vN')(d:Λ b c):Wg a c gW vN vN':=h.trans (Wg.of_below d)
theorem ZY:∃i,prog.info? 32=some i/\i.zero=some (ε)/\i.size=1/\i.bytes=24:=by
 have h:(prog.info? 32).map (λi=>(i.zero,i.size,i.bytes))=some (some (ε),1,24):=by kernel_rfl
 cases a:prog.info? 32 with
 |none=>rw[a]at h;simp at h
 |some i=>rw[a]at h;simp at h;exact⟨i,rfl,h.1,h.2.1,h.2.2⟩
theorem Wt.apart(h:Wt w gW base vN X ns):vN.ownBlock≠some gW:=by
 intro e;obtain⟨c,⟨_,b⟩,_⟩:=h.o;rcases b with⟨rfl,_⟩|⟨g',cap,cur,rfl,_,a,_⟩
 ·cases e
 ·have e:g'=gW:=by simpa[Value.ownBlock]using e
  subst e;have:=h.r;rw[Rw,a]at this;simp at this
theorem Ud(m:Wt w gW base vN X ns){x:Nat}{b:τ}(Q:Sk (KW gW vN X) w a n c b)(M:Rw x w #[σ a n c] 32)(Z:ns.length+1<=7600000000000):
 ∃v' w',(∀ty,(Builtin.append_ #[30,30] ty #[vN,σ (ζ x 0) 1 1]).run prog w= .ok v' w')/\(∀o,Set1 w' o gW 0 v'->Wt o gW base v' X (ns++[b])/\Wg w o gW vN v')/\Rw gW w' #[vN] 77/\v'.cells=#[v']/\v'.oneCell'=true:=by
 obtain⟨i,R,O,G,H⟩:=ZY;have z:=m.apart;have D:=m.lt;have E:=m.b;have P:=m.r;obtain⟨h,C,y,J⟩:=m.o
 obtain⟨v',w',L,p,f,_,B⟩:=Kt w base 30 0 32 i (ε) 1 24 υ30 R O G H rfl (by decide) vN ns.length h C ⟨x,0,none⟩ 1 1 [σ a n c] rfl (λj u d=>by
  cases j with
  |zero=>rw[BO,Aj _ _ _ _ _ _ M];exact d
  |succ j=>simp at d) (λu d=>by rw[Bz.1 d];rfl) (by decide) (by unfold maxLen;omega) (by omega) (by omega)
 have A:Rw gW w' #[vN] 77:=(f.block gW D.1 (λe=>z e.symm)).trans P;have F:v'.ownBlock≠some gW:=by
  rcases B with e|e
  ·rw[e];exact z
  ·rw[e];intro q;simp at q;omega
 refine⟨v',w',λty=>L,λo t=>?_,A,?_,?_⟩
 ·have l:Wg w o gW vN v':=by
   have r:=t.touch;refine⟨r.os.trans f.os,r.tape.trans f.tape,r.output.trans f.output,Au f.size r.size,λk s l T=>(t.other l).trans (f.block k s (λe=>T e.symm)),?_⟩;rcases B with e|e
   ·exact .inl e
   ·exact .inr (λk s=>by rw[e]at s;simp at s;omega)
  refine⟨⟨A.set t rfl,⟨h++[σ a n c],?_,?_,?_⟩,E⟩,l⟩
  ·rw[Af,CG];refine⟨p.1,?_⟩;rcases p.2 with q|⟨g,cap,cur,v,N,S,Y⟩
   ·exact .inl q
   ·refine .inr ⟨g,cap,cur,v,N,(t.other ?_).trans S,Y⟩;rintro rfl;exact F (by rw[v];rfl)
  ·rw[Af,Af,y];rfl
  ·intro j u d;by_cases U:j<h.length
   ·rw[Bg U]at d;obtain⟨V,W,c1,v,I⟩:=J j u d;refine⟨V,W,c1,v,?_⟩;have e:(ns++[b]).getD j []=ns.getD j []:=(by rw[List.getD,List.getD,Bg (by omega)]);rw[e];exact I.wg l
   ·have K:j=h.length:=by
     have:=(Ar.1 d).1;rw[Af,CG]at this;omega
    subst K;rw[Bn (Ab _),C8]at d;simp at d;refine⟨a,n,c,d.symm,?_⟩;have e:(ns++[b]).getD h.length []=b:=(by rw[List.getD,y,Bn (Ab _),C8];rfl);rw[e];exact Q.wg l
 ·rcases p.2 with⟨rfl,_⟩|⟨g,cap,cur,rfl,_⟩<;>rfl
 ·rcases p.2 with⟨rfl,_⟩|⟨g,cap,cur,rfl,_⟩<;>rfl
theorem ol_build{P:Program}{ρ:Φ}{w:Γ}{o:Oper}(t:TypeId)(a:Array (Nat×Operand))(l:List (Nat×Δ))(cells:Ξ)(d:o.op= .build t a)(b:(a.map λ(i,x)=>(i,ρ x)).toList=l)(c:P.built t l=some cells):(execOp ρ o).run P w= .ok (.value (γ cells)) w:=by
 unfold execOp;rw[d];have:=run_build (P:=P) w t (a.map λ(i,x)=>(i,ρ x)) cells (by rw[b];exact c);simp only[AO,this,A4,AV]
theorem IJ{y:NV}(h:y.c.d.length=32):y.cells.toArray.size=38:=by rw[Ba,NV.len h]
theorem FE{f:Nat->Δ}(h:fn.results=#[.cell p 121])(w:Γ)(g:Nat)(y:NV)(b:y.c.d.length=32)(a:f p=π g)(c:Rw g w y.cells.toArray 121):(resF f fn.results).run prog w= .ok (γ y.cells.toArray) w:=by
 have:=CB (P:=prog) w g 121 121 _ _ _ c υ121 rfl (by rw[I0,IJ b]);unfold resF;rw[h];simp[a,this,asAddr]
theorem Sk.agk{bs:τ}(h:Sk K w a n c bs)(b:n<=140737488351232):AgK (λ_=>True) w a n c bs:=⟨h.ag,b,λ_ _ _ _=>trivial⟩
def RNd(w:Γ)(gW base:Nat)(vN:Δ)(X:Θ)(ns:List τ)(t:Tr):Δ->Γ->Prop:=λu w'=>∃(y:NV)(vN':Δ),u=γ y.cells.toArray/\NodeAt (λ_=>True) w' y (nodeP t)/\Wt w' gW base vN' X (ns++nmd t)/\Wg w w' gW vN vN'
def REn(w:Γ)(gW base:Nat)(vN:Δ)(X:Θ)(ns:List τ)(t:Tr):Δ->Γ->Prop:=λu w'=>∃(a:Ω)(n c:Nat)(vN':Δ),u=σ a n c/\Sk (KW gW vN' (λb=>w.heap.size<=b)) w' a n c (encT t)/\Wt w' gW base vN' X (ns++nmd t)/\Wg w w' gW vN vN'/\(encT t).length<=65540
theorem Wt.mono{Y:Θ}(h:Wt w gW base vN X ns)(q:∀b,b<w.heap.size->X b->Y b):Wt w gW base vN Y ns:=by
 obtain⟨k,o,m,p⟩:=h.o;refine⟨h.r,⟨k,o,m,λj v l=>?_⟩,h.b⟩;obtain⟨a,n,c,e,f⟩:=p j v l;exact⟨a,n,c,e,f.ag,λx g i=>by have d:=f.k x g i;exact⟨d.1,d.2.1,q _ (f.old g i) d.2.2⟩⟩
theorem Sk.fresh{K:Θ}{v:Γ}{bs:τ}(h:Sk (λb=>v.heap.size<=b) w' a n c bs)(d:Wt v gW base vN X ns)(f:w.heap.size<=v.heap.size):Sk (KW gW vN (λb=>w.heap.size<=b)) w' a n c bs:=
 h.mono (λb g=>⟨λe=>by have:=d.lt.1;omega,λe=>by have:=d.lt.2 b e;omega,Au f g⟩)
theorem Sy{n:PN}(a:okN n):(NEP n).1.length<=65540:=by
 unfold NEP;split
 ·rename_i h;exact(Ek a h).2.2
 ·simp
theorem GW(w:Γ):RefAt (λ_=>True) w rz r0:=⟨rfl,rfl,λx a=>by rw[Ce.1 a|>.2];omega,rfl,⟨.inl ⟨rfl,rfl⟩,λ_=>⟨rfl,rfl⟩,rfl,λx a=>by cases a⟩,A8 _,λ_ _ _ _=>trivial⟩
theorem Ue(h:Wt w gW base vN X ns){a':Ω}{n' c':Nat}{p x:τ}(f:Sk (KW gW vN Z) w a n c p)(g:Sk (KW gW vN Z) w a' n' c' x)(v:n<=1000)(t:n'<=256):
 κ 195 #[γ #[σ a n c,σ a' n' c'],π gW] w λu w'=>RNd w gW base vN X ns (leaf p x) u w':=by
 have i:=Bl.refl w;refine Ck func195 10<|Hn 2 (#[σ a n c,σ a' n' c']) 102 ?_;intro w1 l e k;refine Hn 0 nz.cells.toArray 121 ?_;intro y gN d _;refine Hx 5 (og f195 1 1) (σ a n c) (λ_=>AY 32 _ ⟨l,0,none⟩ _ _ rfl (by kernel_rfl) (by rw[Aj _ _ _ _ _ _ (k.go d.below)];rfl) υ32 rfl)<|Hx 1 (og f195 1 3) (σ a' n' c') (λ_=>AY 32 _ ⟨l,1,none⟩ _ _ rfl (by kernel_rfl) (by rw[Aj _ _ _ _ _ _ (k.go d.below)];rfl) υ32 rfl)<|Hx 0 (og f195 1 4) (γ (NV.cells ⟨1,a,n,c,a',n',c',rz,none,0,0⟩).toArray) (λ_=>ol_build 121 _ [(0,ι 1),(1,σ a n c),(2,σ a' n' c')] _ rfl (by kernel_rfl) (GP _ _ _ _ _ _))<|Hy 0 (og f195 1 5) gN (NV.cells ⟨1,a,n,c,a',n',c',rz,none,0,0⟩).toArray (λ_=>AM 121 _ _ _ _ _ _ rfl (by kernel_rfl) (by kernel_rfl) d.row (by kernel_rfl) (by kernel_rfl) (by kernel_rfl)) ?_;intro s o;have b:=d.put o;have m:Rw gN s (NV.cells ⟨1,a,n,c,a',n',c',rz,none,0,0⟩).toArray 121:=b.row;replace f:=(f.go e.below).go b.below;have A:=f.len;replace g:=(g.go e.below).go b.below;have z:=g.len;replace i:=(i.go e.below).go b.below;replace h:=(h.go e.below).go b.below;exact JI 3 (γ (NV.cells ⟨1,a,n,c,a',n',c',rz,none,0,0⟩).toArray) (λ_=>FE results195 _ gN ⟨1,a,n,c,a',n',c',rz,none,0,0⟩ rfl (by kernel_rfl) m) ⟨_,rfl,⟨1,a,n,c,a',n',c',rz,none,0,0⟩,vN,rfl,⟨rfl,f.agk (by omega),g.agk (by omega),GW _,⟨rfl,Ab _,A8 _,A8 _,λ_=>⟨rfl,rfl⟩⟩,λj r q=>by simp[nodeP]at q⟩,(by rw[show nmd (leaf p x)=[]from rfl,A7];exact h),Wg.of_below i⟩
theorem QO{t:Tr}(g:t≠no)(E:MC "pergola/trie.node" (.iface T0 v0) #[π gW] w (RNd w gW base vN X ns t)):
 κ 36 #[π gW, .iface T0 v0] w λu w'=>REn w gW base vN X ns t u w':=by
 have J:=Bl.refl w;refine Ck func36 15 ?_;obtain⟨I,A,B,G,s,v⟩:=E;refine Hm 9 (og f36 1 2) B (#[A]++#[π gW]) (λ_=>s _ _ _ _ _ _ _ rfl (by kernel_rfl) (by kernel_rfl)) (R:=RNd w gW base vN X ns t) ?_ ?_
 ·exact v
 rintro _ f⟨y,vM,rfl,r,i,k⟩;refine Hc 0 (R:=λu w'=>∃a m c,u=θ #[σ a m c,ι ((NEP (nodeP t)).2:Nat)]/\Sk (λb=>f.heap.size<=b) w' a m c (NEP (nodeP t)).1/\Bl f w') ((Kv (λ_=>True) y (nodeP t) f r).mono (λe w' h=>by obtain⟨⟨a,m,c,F,o,z⟩,C⟩:=h;exact⟨_,F,a,m,c,rfl,⟨o,λq l D=>by rcases o.i with⟨d,L⟩|⟨gb,off,d,_⟩;omega;rw[l]at d;cases d;exact(z gb off l D).1⟩,C⟩)) ?_;rintro _ H⟨n,p,c2,rfl,x,j⟩;exact Hr 14 (σ n p c2) ⟨_,rfl,n,p,c2,vM,rfl,(by rw[DU g];exact x.fresh (K:=λ_=>True) i k.size),i.go j,k.trans (Wg.of_below j),(by rw[DU g];exact Sy r.okN)⟩
theorem r_size(h:y.d.length=32):y.cells.toArray.size=34:=by rw[Ba,RV.len h]
theorem r_ones(y:RV):y.cells.toArray.all (·.oneCell')=true:=Am (RV.one y)
theorem MZ{f:Nat->Δ}(h:fn.results=#[.cell p 118])(w:Γ)(g:Nat)(y:RV)(b:y.d.length=32)(a:f p=π g)(c:Rw g w y.cells.toArray 118):(resF f fn.results).run prog w= .ok (γ y.cells.toArray) w:=by
 have:=CB (P:=prog) w g 118 118 _ _ _ c υ118 rfl (by rw[EW,r_size b]);unfold resF;rw[h];simp[a,this,asAddr]
structure Rf(K:Θ)(w:Γ)(y:RV)(r:PR):Prop where
 at':RefAt K w y r
theorem Rf.go(h:Rf K w y r)(a:Λ w w'):Rf K w' y r:=⟨h.at'.go (Keep.below a)⟩
theorem Rf.wg(h:Rf (KW gW vN X) w y r)(g:Wg w w' gW vN vN'):Rf (KW gW vN' X) w' y r:=⟨h.at'.go g.keep⟩
theorem Sk.put{bs:τ}{cells:Ξ}(h:Sk K w a n c bs)(f:Put w w' g cells)(m:∀b,K b->b≠g):Sk K w' a n c bs:=by
 refine⟨⟨?_,h.ag.nil,h.ag.l,h.ag.b⟩,h.k⟩;rcases h.ag.i with d|⟨gb,off,d,k,e,l,o,p⟩
 ·exact .inl d
 ·exact .inr ⟨gb,off,d,k,e,l,o,λj i=>(Av (show w'.heap[gb]?=w.heap[gb]? from f.other (m gb (h.k _ d e)))).trans (p j i)⟩
theorem Rf.put{cells:Ξ}(h:Rf K w y r)(d:Put w w' g cells)(c:∀b,K b->b≠g):Rf K w' y r:=⟨h.at'.go (λb a _=>⟨d.other (c b a),a⟩)⟩
theorem Rf.mono{K':Θ}(h:Rf K w y r)(a:∀b,K b->K' b):Rf K' w y r:=⟨h.at'.go (λb c _=>⟨rfl,a b c⟩)⟩
theorem Wt.drew(h:Wt w gW base vN X ns):Wt w.drew gW base vN X ns:=h.go (Ac _ _).drew
theorem Wt.put{cells old:Ξ}{T:TypeId}(h:Wt w gW base vN X ns)(i:Rw g w old T)(A:T≠32)(p:T≠77)(v:∀b,X b->b≠g)(f:Put w w' g cells):Wt w' gW base vN X ns:=by
 obtain⟨l,⟨z,o⟩,k⟩:=h.o;have m:gW≠g:=by
  rintro rfl;have:=h.r;rw[Rw,i]at this;simp at this;exact p this.2
 refine⟨(f.other m).trans h.r,⟨l,⟨z,?_⟩,k.1,λj u r=>?_⟩,h.b⟩
 case refine_2=>
  obtain⟨a,n,c,e,t⟩:=k.2 j u r;exact⟨a,n,c,e,t.put f (λb s=>v b s.2.2)⟩
 rcases o with q|⟨g',cap,cur,x,B,d,y⟩
 ·exact .inl q
 ·refine .inr ⟨g',cap,cur,x,B,(f.other ?_).trans d,y⟩;rintro rfl;rw[i]at d;simp at d;exact A d.2
theorem Wg.put{v v':Γ}{cells:Ξ}(h:Wg w v gW vN vN')(b:Put v v' g cells)(f:w.heap.size<=g):Wg w v' gW vN vN':=by
 have a:=b.touch;exact⟨a.os.trans h.os,a.tape.trans h.tape,a.output.trans h.output,Au h.size a.size,λk d c e=>(b.other (by omega)).trans (h.block k d c e),h.own⟩
def RRf(w:Γ)(gW base:Nat)(vN:Δ)(X:Θ)(ns:List τ)(t:Tr):Δ->Γ->Prop:=λu w'=>∃(y:RV)(vN':Δ),u=γ y.cells.toArray/\Rf (KW gW vN' (λb=>w.heap.size<b)) w' y (referP (encT t))/\Wt w' gW base vN' X (ns++(nmd t++nm1 (encT t)))/\Wg w w' gW vN vN'
theorem P6(b:τ):(referP b).k=if b.length<32 then 1 else 2:=by unfold referP;split<;>rfl
theorem Ol(k:Wt w gW base vN X ns){t:Tr}(M:∀b,w.heap.size<=b->X b)(Q:∀v,Bl w v->∀Y:Θ,Wt v gW base vN Y ns->(∀b,v.heap.size<=b->Y b)->κ 36 #[π gW, .iface T0 v0] v λu w'=>REn v gW base vN Y ns t u w')(hM:(ns++nmd t).length+1<=7600000000000)(C:(encT t).length<32):
 κ 208 #[π gW, .iface T0 v0] w λu w'=>RRf w gW base vN X ns t u w':=by
 have l:=Bl.refl w;have G:=k;refine Ck func208 26<|Hn 2 rz.cells.toArray 118 ?_;intro w1 f j c;have ac:=j.hg;have aa:=j.size;have D:Wt w1 gW base vN (λb=>X b/\b≠f) ns:=(G.mono (Y:=λb=>X b/\b≠f) (λb a S=>⟨S,by omega⟩)).go j.below;replace l:=l.go j.below;refine Hc 6 (R:=REn w1 gW base vN (λb=>X b/\b≠f) ns t) (Q w1 l (λb=>X b/\b≠f) D (λb a=>⟨M b (by omega),by omega⟩)) ?_;rintro _ r⟨U,W,c2,vM,rfl,B,m,s,ab⟩;replace k:=k.go j.below;replace c:=c.wg s k (by decide) (by decide);have o:=(Wg.of_below l).trans s;clear k l;have Z:=s.size;have ad:=B.len;refine Hc 6 (R:=λu w'=>∃y:RV,u=γ y.cells.toArray/\Rf (λb=>r.heap.size<=b) w' y (referP (encT t))/\Bl r w') ((JW U W c2 (encT t) r B.ag (by omega)).mono (λe w' h=>by obtain⟨⟨y,T,O⟩,L⟩:=h;exact⟨_,T,y,rfl,⟨O.go (λb a _=>⟨rfl,a.1⟩)⟩,L⟩)) ?_;rintro _ N⟨y,rfl,d,p⟩;have x:=m.lt;replace d:Rf (KW gW vM (λb=>w.heap.size<b)) N y (referP (encT t)):=d.mono (λb a=>⟨λe=>by have:=x.1;omega,λe=>by have:=x.2 b e;omega,by omega⟩);have g:=d.at'.len;have K:y.k=1:=by rw[d.at'.1,P6,Ai C]
 refine Hn 0 rz.cells.toArray 118 ?_;intro wA q z _;refine Hy 0 (og f208 2 3) q y.cells.toArray (λ_=>AM 118 _ _ _ _ _ _ rfl (by kernel_rfl) (by kernel_rfl) z.row (by rw[EW,r_size g]) (by rw[r_size g];rfl) (r_ones y)) ?_;intro P H;have i:=z.put H;have A:Rw q P y.cells.toArray 118:=i.row;refine Hx 6 (og f208 3 1) (ι 1) (λ_=>AY 3 _ ⟨q,0,none⟩ _ _ rfl (by kernel_rfl) (by rw[Aj _ _ _ _ _ _ A,<-K];rfl) υ3 rfl)<|Hx 8 (og f208 5 0) (γ y.cells.toArray) (λ_=>BW 118 _ _ _ _ _ _ rfl (by kernel_rfl) A υ118 rfl (by rw[EW,r_size g])) ?_;replace c:=(c.go p).go i.below;refine Hy 0 (og f208 5 1) f y.cells.toArray (λ_=>AM 118 _ _ _ _ _ _ rfl (by kernel_rfl) (by kernel_rfl) c (by rw[EW,r_size g]) (by rw[r_size g];rfl) (r_ones y)) ?_;intro V n;have F:Rw f V y.cells.toArray 118:=n.row c;replace d:=d.go i.below;have E:=d.put n (λb a=>by have:=a.2.2;omega);replace m:=(m.go p).go i.below;have I:=(m.put c (by decide) (by decide) (λb a=>a.2) n).mono (λb _ a=>a.1);replace o:=(o.go p).go i.below;have J:=o.put n (by omega);exact JI 3 (γ y.cells.toArray) (λ_=>MZ results208 _ f y g (by kernel_rfl) F) ⟨_,rfl,y,vM,rfl,E,(by rw[show nm1 (encT t)=[]from by unfold nm1;rw[Ai C],A7];exact I),J⟩
theorem P7(o:Wt w gW base vN X ns){t:Tr}(G:∀b,w.heap.size<=b->X b)(hE:∀v,Bl w v->∀Y:Θ,Wt v gW base vN Y ns->(∀b,v.heap.size<=b->Y b)->κ 36 #[π gW, .iface T0 v0] v λu w'=>REn v gW base vN Y ns t u w')(hM:(ns++nmd t).length+1<=7600000000000)(F:¬(encT t).length<32):
 κ 208 #[π gW, .iface T0 v0] w λu w'=>RRf w gW base vN X ns t u w':=by
 have p:=Bl.refl w;have L:=o;refine Ck func208 26<|Hn 2 rz.cells.toArray 118 ?_;intro w1 f n d;have ac:=n.hg;have ae:=n.size;have O:Wt w1 gW base vN (λb=>X b/\b≠f) ns:=(L.mono (Y:=λb=>X b/\b≠f) (λb a hx=>⟨hx,by omega⟩)).go n.below;replace p:=p.go n.below;refine Hc 6 (R:=REn w1 gW base vN (λb=>X b/\b≠f) ns t) (hE w1 p (λb=>X b/\b≠f) O (λb a=>⟨G b (by omega),by omega⟩)) ?_;rintro _ z⟨H,I,c2,vM,rfl,i,c,A,af⟩;replace o:=o.go n.below;replace d:=d.wg A o (by decide) (by decide);have x:=(Wg.of_below p).trans A;clear o p;have ad:=A.size;have ah:=i.len;refine Hc 6 (R:=λu w'=>∃y:RV,u=γ y.cells.toArray/\Rf (λb=>z.heap.size<=b) w' y (referP (encT t))/\Bl z w') ((JW H I c2 (encT t) z i.ag (by omega)).mono (λe w' h=>by obtain⟨⟨y,e1,h1⟩,h2⟩:=h;exact⟨_,e1,y,rfl,⟨h1.go (λb a _=>⟨rfl,a.1⟩)⟩,h2⟩)) ?_;rintro _ u2⟨y,rfl,g,r⟩;have D:=c.lt;replace g:Rf (KW gW vM (λb=>w.heap.size<b)) u2 y (referP (encT t)):=g.mono (λb a=>⟨λe=>by have:=D.1;omega,λe=>by have:=D.2 b e;omega,by omega⟩);have l:=g.at'.len;have ab:y.k=2:=by rw[g.at'.1,P6,Ae F]
 refine Hn 0 rz.cells.toArray 118 ?_;intro wA C E _;refine Hy 0 (og f208 2 3) C y.cells.toArray (λ_=>AM 118 _ _ _ _ _ _ rfl (by kernel_rfl) (by kernel_rfl) E.row (by rw[EW,r_size l]) (by rw[r_size l];rfl) (r_ones y)) ?_;intro wC V;have j:=E.put V;have m:Rw C wC y.cells.toArray 118:=j.row;refine Hx 6 (og f208 3 1) (ι 2) (λ_=>AY 3 _ ⟨C,0,none⟩ _ _ rfl (by kernel_rfl) (by rw[Aj _ _ _ _ _ _ m,<-ab];rfl) υ3 rfl) ?_;replace c:=(c.go r).go j.below;refine Hl 9 c.r 0 30 (vM)<|M6 1 #[σ H I c2] 32 1 ?_;intro wL gL k U;replace i:=((i.go r).go j.below).go k.below;replace c:=c.go k.below;obtain⟨B,wP,M,P,W,K,Q⟩:=Ud c (i.mono (K':=KW gW vM (λb=>X b/\b≠f)) (λb a=>⟨a.1,a.2.1,G b (by have:=a.2.2;omega),by have:=a.2.2;omega⟩)) U (by simp only[Af]at hM⊢;omega);refine Hx 0 (og f208 4 7) B (λ_=>RM M _ _ rfl (by kernel_rfl) (by kernel_rfl))<|Ha 2 (og f208 4 10) gW 0 B (λ_=>ol_setC 30 _ _ gW 0 _ 77 _ W rfl (by kernel_rfl) (by kernel_rfl) (by show 0<1;omega) K Q (by kernel_rfl)) ?_;intro wD aa;obtain⟨J,s⟩:=P wD aa;replace d:=((d.go r).go j.below).go k.below;replace d:=d.wg s c (by decide) (by decide);replace m:=m.go k.below;replace m:=m.wg s c (by decide) (by decide);clear c i;have c:=J;refine Hx 4 (og f208 5 0) (γ y.cells.toArray) (λ_=>BW 118 _ _ _ _ _ _ rfl (by kernel_rfl) m υ118 rfl (by rw[EW,r_size l]))<|Hy 0 (og f208 5 1) f y.cells.toArray (λ_=>AM 118 _ _ _ _ _ _ rfl (by kernel_rfl) (by kernel_rfl) d (by rw[EW,r_size l]) (by rw[r_size l];rfl) (r_ones y)) ?_;intro wE q;have T:Rw f wE y.cells.toArray 118:=q.row d;replace g:=((g.go j.below).go k.below).wg s;have S:=g.put q (λb a=>by have:=a.2.2;omega);have Z:=(c.put d (by decide) (by decide) (λb a=>a.2) q).mono (λb _ a=>a.1);replace x:=(((x.go r).go j.below).go k.below).trans s;have N:=x.put q (by omega);exact JI 3 (γ y.cells.toArray) (λ_=>MZ results208 _ f y l (by kernel_rfl) T) ⟨_,rfl,y,B,rfl,S,(by rw[show nm1 (encT t)=[encT t]from by unfold nm1;rw[Ae F],<-AX];exact Z),N⟩
theorem Sk.aged{bs:τ}(h:Sk (KW gW vN X) w a n c bs):Sk (KW gW vN (λb=>b<w.heap.size)) w a n c bs:=⟨h.ag,λx e f=>by have d:=h.k x e f;exact⟨d.1,d.2.1,h.old e f⟩⟩
theorem KR(w:Γ):AgK (λ_=>True) w none 0 0 []:=⟨⟨.inl ⟨rfl,rfl⟩,λ_=>⟨rfl,rfl⟩,rfl,λx a=>by cases a⟩,A8 _,λ_ _ _ _=>trivial⟩
theorem QP(y:NV):y.cells.toArray.all (·.oneCell')=true:=Am (NV.one y)
theorem Uf(s:Wt w gW base vN X ns){p:τ}{t:Tr}{Tu:TypeId}{xu:Δ}(B:Sk (KW gW vN Z) w a n c p)(ab:n<=1000)(M:∀b,w.heap.size<=b->X b)(Q:∀v,Bl w v->∀Y:Θ,Wt v gW base vN Y ns->(∀b,v.heap.size<=b->Y b)->κ 208 #[π gW, .iface Tu xu] v λu w'=>RRf v gW base vN Y ns t u w'):
 κ 211 #[γ #[σ a n c, .iface Tu xu],π gW] w λu w'=>RNd w gW base vN X ns (ext p t) u w':=by
 have i:=Bl.refl w;have H:=s;refine Ck func211 12<|Hn 2 (#[σ a n c, .iface Tu xu]) 255 ?_;intro w1 N o d;have aa:=o.hg;have U:=o.size;refine Hn 0 nz.cells.toArray 121 ?_;intro A gN l g;have V:=l.hg;have W:=l.size;replace i:=(i.go o.below).go l.below;have k:Wt A gW base vN (λb=>X b/\b≠gN) ns:=(H.mono (Y:=λb=>X b/\b≠gN) (λb f P=>⟨P,by omega⟩)).go i;replace d:=d.go l.below;refine Fq 3 (λv=>Rw N v (#[σ a n c, .iface Tu xu]) 255) (d.drew) ?_;replace d:=d.drew;refine Dl [0] 1 (λv z=>z) 0 32 (σ a n c) d<|Dl [2,3] 4 (λv z=>z) 1 69 (.iface Tu xu) d<|Dz [5] ?_;replace i:=i.drew;replace g:=g.drew;replace k:=k.drew;refine Yc 5 (R:=RRf (A.drew) gW base vN (λb=>X b/\b≠gN) ns t) (Q (A.drew) i (λb=>X b/\b≠gN) k (λb f=>⟨M b (Au i.size f),λe=>by have hq:gN<(A.drew).heap.size:=lt_of_get g;omega⟩)) (λu w' h=>by obtain⟨_,_,_,_,_,L⟩:=h;exact d.wg L k (by decide) (by decide)) ?_ yn;rintro _ u1⟨y,vM,rfl,D,E,x⟩;have T:gN<_:=lt_of_get g;replace d:=d.wg x k (by decide) (by decide);replace g:=g.wg x k (by decide) (by decide);have I:=(Wg.of_below i).trans x;have q:=D.at'.len;replace s:=((s.go o.below).go l.below).drew;clear i s k;refine Dx [] 6 (og f211 1 6) (γ (NV.cells ⟨2,a,n,c,none,0,0,y,none,0,0⟩).toArray) (λv z _=>ol_build 121 _ [(0,ι 2),(1,σ a n c),(3,γ y.cells.toArray)] _ rfl (by kernel_rfl) (Gm _ _ _ _ q)) d<|Dz [7] ?_;refine Yy 7 (og f211 1 7) gN ((NV.cells ⟨2,a,n,c,none,0,0,y,none,0,0⟩).toArray) (λ_=>AM 121 _ _ _ _ _ _ rfl (by kernel_rfl) (by kernel_rfl) g (by rw[I0,IJ (y:=⟨2,a,n,c,none,0,0,y,none,0,0⟩) q]) (by rw[IJ (y:=⟨2,a,n,c,none,0,0,y,none,0,0⟩) q];rfl) (QP _)) (λw' h=>(h.other (by omega)).trans d) ?_ yn;intro S m;have F:Rw gN S (NV.cells ⟨2,a,n,c,none,0,0,y,none,0,0⟩).toArray 121:=m.row g;have G:=D.put m (λb f=>by have:=f.2.2;omega);replace B:=(((B.aged.go o.below).go l.below).drew).wg x;have C:=B.put m (λb f=>by have:=f.2.2;omega);have J:=(E.put g (by decide) (by decide) (λb f=>f.2) m).mono (λb _ f=>f.1);have K:=I.put m (by omega);refine Do ?_;have lp:=C.len;exact JI 2 (γ (NV.cells ⟨2,a,n,c,none,0,0,y,none,0,0⟩).toArray) (λ_=>FE results211 _ gN ⟨2,a,n,c,none,0,0,y,none,0,0⟩ q (by kernel_rfl) F) ⟨_,rfl,⟨2,a,n,c,none,0,0,y,none,0,0⟩,vM,rfl,⟨rfl,C.agk (by omega),KR _,G.at'.go (λb f _=>⟨rfl,trivial⟩),⟨rfl,Ab _,A8 _,A8 _,λ_=>⟨rfl,rfl⟩⟩,λj r O=>by simp[nodeP]at O⟩,J,K⟩
end
section
open Di (dref)
theorem QQ(a:Ω)(n c:Nat)(b:τ)(w:Γ)(h:Ag w a n c b)(S:n<=140737488351232):Calls prog 94 #[σ a n c] w (RfPost w b):=by
 have z:=h.l;by_cases W:n<32
 ·have l:referP b=⟨1,z32,b⟩:=by unfold referP;rw[Ai (by omega)]
  unfold RfPost;rw[l];have K:(n:Int)<32:=by omega
  have E:=Aa h;have N:=Aa z;clear l h z;go_enter func94,ntmps94;go_upto_region 1 with fail;refine gen_w (p:=λv=>Code.wp _ _ _ _ v) (q:=λv=>v.heap[w.heap.size]?=some (.cells rz.cells.toArray 118)/\Λ w v/\w.heap.size+1<=v.heap.size) ⟨Ak _ _,below_new _ _,by simp⟩ ?_;rintro v⟨k,i,F⟩;have s:=Aa k;have r:=Aa i;have H:=Aa F;have M:=Aa (XbN E.out i);clear k i F;go_upto_region 2 with fail;rename_i P u;refine CX<|NU 6 (σ (some ⟨v.heap.size,0,none⟩) 0 0) rfl (by kernel_rfl) (YX rfl)<|B9 7 (σ a n c) rfl (by kernel_rfl) (by kernel_rfl) ?_;have t:=M.out.at (below_new v (.cells #[] 5));refine DA rfl (.tmp 6) (.tmp 7) rfl v.heap.size _ [] (by kernel_rfl) (OwnB.new v) a n c b (by kernel_rfl) t.i t.nil t.l (by simp;omega) (by simp) ?_;intro X w1 x m;rw[AH]at x;obtain⟨d,c1,rfl,D⟩:=x.ag E.out.b;rw[N.out]at D⊢;have C:Λ v w1:=(below_new v (.cells #[] 5)).trans m;have j:=Below.row C s.out;have O:Fr v.heap.size w1 d n:=λg off e J=>by
   rcases x.2 with⟨A,_⟩|⟨g',V,cur,A,L,Q,_⟩
   ·injection A with T;rw[T]at e;cases e
   ·cases A;cases e;exact⟨L,λo=>AN _ _ _ _ _ Q⟩
  refine B9 9 (γ (RV.cells ⟨1,z32,d,n,c1⟩).toArray) rfl (by kernel_rfl) (Eh 118 _ rfl [(0,ι 1),(2,σ d n c1)] (by kernel_rfl) _ (VX _ _ _))<|Fw rfl (by kernel_rfl) (D1 118 _ _ rfl w.heap.size (RV.cells ⟨1,z32,d,n,c1⟩).toArray (by kernel_rfl) (by kernel_rfl) 118 rz.cells.toArray j (CD rfl) (CL rfl) (Am (RV.one _)))<|u _ _<|Oj (post:=λe w'=>(∃y:RV,e=ω (γ y.cells.toArray)/\RefAt (Own w.heap.size w') w' y ⟨1,z32,b⟩)/\Λ w w') results94 (λh=>h) w.heap.size ⟨1,z32,d,n,c1⟩ rfl (by kernel_rfl) (by kernel_rfl) (AC _ _ _ _ _ _ j) ?_;refine⟨⟨⟨1,z32,d,n,c1⟩,rfl,rfl,rfl,Js,rfl,(show AgK (Own v.heap.size w1) w1 d n c1 b from⟨D,by omega,λg off e J=>O g off e J⟩).go (Keep.setRow (base:=v.heap.size) (base':=w.heap.size) (g:=w.heap.size) (by have:=H.out;omega) (by have:=H.out;omega))⟩,Below.setRow (below_go r.out C) (Ab _) _⟩
 ·have l:referP b=⟨2,dref b,[]⟩:=by unfold referP;rw[Ae (by omega)]
  unfold RfPost;rw[l];have K:¬(n:Int)<32:=by omega
  have G:=Aa (λv(U:Λ w v)=>LA a n c b v (h.at U) S);have f:=Aa (dref_len b);have I:=Aa (GS b);obtain⟨ds,B⟩:∃ds,dref b=ds:=⟨_,rfl⟩;rw[B]at G f I⊢;clear l h z B;go_enter func94,ntmps94;go_upto_region 1 with fail;refine gen_w (p:=λv=>Code.wp _ _ _ _ v) (q:=λv=>v.heap[w.heap.size]?=some (.cells rz.cells.toArray 118)/\Λ w v) ⟨Ak _ _,below_new _ _⟩ ?_;rintro v⟨k,i⟩;have s:=Aa k;have r:=Aa i;clear k i;go_upto_region 3 with fail;rename_i P u;refine CX<|B9 10 (σ a n c) rfl (by kernel_rfl) (by kernel_rfl)<|KH 11 rfl (by kernel_rfl) 38 #[σ a n c] (by kernel_rfl) (R:=λval w'=>val=γ (B8 ds)/\Λ v w') ((G.out v r.out).mono (λe w' h=>⟨_,h.1,rfl,h.2⟩)) ?_;rintro val w1⟨rfl,m⟩;have j:=Below.row m s.out;refine B9 12 (γ (RV.cells ⟨2,ds,none,0,0⟩).toArray) rfl (by kernel_rfl) (Eh 118 _ rfl [(0,ι 2),(1,γ (B8 ds))] (by kernel_rfl) _ (JV ds f.out))<|Fw rfl (by kernel_rfl) (D1 118 _ _ rfl w.heap.size (RV.cells ⟨2,ds,none,0,0⟩).toArray (by kernel_rfl) (by kernel_rfl) 118 rz.cells.toArray j (CD f.out) (CL f.out) (Am (RV.one _)))<|u _ _<|Oj (post:=λe w'=>(∃y:RV,e=ω (γ y.cells.toArray)/\RefAt (Own w.heap.size w') w' y ⟨2,ds,[]⟩)/\Λ w w') results94 (λh=>h) w.heap.size ⟨2,ds,none,0,0⟩ f.out (by kernel_rfl) (by kernel_rfl) (AC _ _ _ _ _ _ j) ?_;exact⟨⟨⟨2,ds,none,0,0⟩,rfl,rfl,rfl,I.out,f.out,Fx _ _⟩,Below.setRow (below_go r.out m) (Ab _) _⟩
end
section
open Tr
variable {w : World} {a : Option Addr} {n c : Nat} {p x : List Int} {K : Nat → Prop} {vs : List (Value × Value)}
def RN7(w:Γ)(t:Tr):Δ->Γ->Prop:=λu w'=>(∃y:NV,u=γ y.cells.toArray/\NodeAt (λ_=>True) w' y (nodeP t))/\Bl w w'
def RB7(w:Γ)(t:Tr):Δ->Γ->Prop:=λu w'=>(∃a m c,u=σ a m c/\Sk (λ_=>True) w' a m c (encT t)/\m<=65540)/\Bl w w'
theorem Sz{b:τ}(h:Sk (λ_=>True) w a n c b)(i:n<=140737488351232):
 κ 94 #[σ a n c] w λu w'=>(∃y:RV,u=γ y.cells.toArray/\RefAt (Own w.heap.size w') w' y (referP b))/\Bl w w':=
 (QQ a n c b w h.ag i).mono (λe w'⟨⟨y,f,d⟩,g⟩=>⟨_,f,⟨y,rfl,d⟩,g⟩)
theorem P8{t:Tr}{k:τ}{j:Nat}(h:(entsR (ext p t))[j]?=some (k,x)):k.take p.length=p/\p.length<=k.length:=by
 have a:((entsR t).map λe=>(p++e.1,e.2))[j]?=some (k,x):=h;rw[AZ]at a;cases b:(entsR t)[j]? with
 |none=>rw[b]at a;cases a
 |some e=>
  rw[b]at a;simp only[B7,Cd,C5]at a;rw[<-a.1];exact⟨D6,by simp⟩
theorem QR(E:PAt K w a 1 c vs [(p,x)])(J:p.length<=1000)(N:x.length<=256):
 κ 67 #[σ a 1 c] w λu w'=>RN7 w (leaf p x) u w':=by
 have b:=Bl.refl w;have o:0<1:=by omega
 obtain⟨n,m,d,f,c1,e,g,c2,k,y,G,D,B,s,q,t⟩:=E.at o;subst G;cases D;have M:=q.len;have O:=t.len;refine Ck func67 78<|Hn 2 nz.cells.toArray 121 ?_;intro L gN A l;have I:=A.hg;have H:=b.size;replace b:=b.go A.below;refine Fq 12 (λv=>Bl w v) (b.drew) ?_;replace b:=b.drew;refine Dx [0] 1 (og f67 2 1) (ψ n (m+0*2)) (λv i _=>AW 60 _ _ n m 0 1 c 2 97 rfl (by kernel_rfl) (by kernel_rfl) o υ60 (by kernel_rfl)) b<|Dx [2] 3 (og f67 2 3) (σ d f c1) (λv i _=>AY 32 _ _ _ _ rfl (by kernel_rfl) ((Ca i (Al B)).trans B) υ32 rfl) b<|Dx [4] 5 (og f67 2 5) (ψ n (m+0*2)) (λv i _=>AW 60 _ _ n m 0 1 c 2 97 rfl (by kernel_rfl) (by kernel_rfl) o υ60 (by kernel_rfl)) b<|Dx [6] 7 (og f67 2 7) (σ e g c2) (λv i _=>AY 32 _ _ _ _ rfl (by kernel_rfl) ((Ca i (Al s)).trans s) υ32 rfl) b<|Dx [] 8 (og f67 2 8) (γ (NV.cells ⟨1,d,f,c1,e,g,c2,rz,none,0,0⟩).toArray) (λv i _=>ol_build 121 _ [(0,ι 1),(1,σ d f c1),(2,σ e g c2)] _ rfl (by kernel_rfl) (GP _ _ _ _ _ _)) b<|Dz [9] ?_;replace l:=l.drew;refine Yy 9 (og f67 2 9) gN ((NV.cells ⟨1,d,f,c1,e,g,c2,rz,none,0,0⟩).toArray) (λ_=>AM 121 _ _ _ _ _ _ rfl (by kernel_rfl) (by kernel_rfl) l (by kernel_rfl) (by kernel_rfl) (by kernel_rfl)) (λw' h=>h.below b (by omega) b.size) ?_ yn;intro w1 z;have C:Rw gN w1 (NV.cells ⟨1,d,f,c1,e,g,c2,rz,none,0,0⟩).toArray 121:=z.row l;replace b:=z.below b (by omega) b.size;refine Do ?_;exact JI 3 (γ (NV.cells ⟨1,d,f,c1,e,g,c2,rz,none,0,0⟩).toArray) (λ_=>FE results67 _ gN ⟨1,d,f,c1,e,g,c2,rz,none,0,0⟩ rfl (by kernel_rfl) C) ⟨_,rfl,⟨⟨1,d,f,c1,e,g,c2,rz,none,0,0⟩,rfl,⟨rfl,(q.go b).agk (by omega),(t.go b).agk (by omega),GW _,⟨rfl,Ab _,A8 _,A8 _,λ_=>⟨rfl,rfl⟩⟩,λj r F=>by simp[nodeP]at F⟩⟩,b⟩
theorem Ug{t:Tr}{B:Nat}(q:Tr.Ok B (ext p t))(ai:B<=64)(s:PAt K w a n c vs (entsR (ext p t)))(o:n<=2600000000000)(Z:∀(j:Nat) k x,(entsR (ext p t))[j]?=some (k,x)->k.length<=1000000)(ad:∀v,Bl w v->∀K' a' n' c' vs',PAt K' v a' n' c' vs' (entsR t)->n'<=2600000000000->κ 39 #[σ a' n' c'] v λu w'=>RB7 v t u w'):
 κ 67 #[σ a n c] w λu w'=>RN7 w (ext p t) u w':=by
 have d:=Bl.refl w;have ll:=s.ll;have ap:=YU q;have E:0<n:=by omega
 have al:0<p.length:=BH.2 q.2.1;have ar:=q.2.2.1;obtain⟨Y,V,a1,n1,c1,a2,n2,c2,k,y0,ea,af,U,aw,M,ao⟩:=s.at E;subst ea;obtain⟨ac,av⟩:=P8 af;have lk:=M.len;obtain⟨g,f,i,ab,F⟩:=M.cutTo p.length (by omega);rw[ac]at F;have l7:=F.len;refine Ck func67 78<|Hn 2 nz.cells.toArray 121 ?_;intro wN gN S l;have am:=S.hg;have ah:=d.size;refine Hz 7 (n:Int) (1:Int) ?_;replace d:=d.go S.below;refine Hc 8 (R:=λu w'=>u=ι ((p.length:Nat):Int)/\Bl (wN) w') ((MS (s.go d) o E Z).mono (λe w'⟨u,I,H,C⟩=>⟨u,I,by rw[H,TY q],C⟩)) ?_;rintro _ W⟨rfl,T⟩;refine Ht 7 (((p.length:Nat):Int)>(0:Int)) ?_;replace d:=d.go T;refine Fq 4 (λv=>Bl w v) (d.drew) ?_;replace d:=d.drew;refine Dx [0] 1 (og f67 5 1) (ψ Y (V+0*2)) (λv z _=>AW 60 _ _ Y V 0 n c 2 97 rfl (by kernel_rfl) (by kernel_rfl) E υ60 (by kernel_rfl)) d<|Dx [2] 3 (og f67 5 3) (σ a1 n1 c1) (λv z _=>AY 32 _ _ _ _ rfl (by kernel_rfl) ((Ca z (Al U)).trans U) υ32 rfl) d<|Dx [4] 5 (og f67 5 5) (σ g f i) (λv z _=>ab _ _ _ _ _ _ rfl (by kernel_rfl) (by kernel_rfl) rfl) d<|Dy [6,7] [8] d ?_;refine Yc 8 (R:=λu w'=>(∃a' A c' vs',u=σ a' A c'/\PAt (λb=>K b∨(W.drew).heap.size<=b) w' a' A c' vs' (entsR t))/\Bl (W.drew) w') ((Pu (s.go d) o (λj k x h=>(P8 h).2)).mono (λe w'⟨u,I,⟨a',A,c',vs',H,C⟩,e4⟩=>⟨u,I,⟨a',A,c',vs',H,by rw[Pr]at C;exact C⟩,e4⟩)) (λu w' h=>d.go h.2) ?_ yn;rintro _ u2⟨⟨a8,m8,c8,ak,rfl,P⟩,N⟩;have l8:=P.ll;have lE:(entsR (ext p t)).length=(entsR t).length:=by simp[entsR]
 refine Dz [9] ?_;replace d:=d.go N;refine Yc 9 (R:=RB7 (u2) t) (ad _ d _ _ _ _ _ P (by omega)) (λu w' h=>d.go h.2) ?_ yn;rintro _ X⟨⟨a9,m9,c9,rfl,O,aq⟩,Q⟩;have l9:=O.len;refine Dz [10] ?_;replace d:=d.go Q;refine Yc 10 (R:=λu w'=>(∃y:RV,u=γ y.cells.toArray/\RefAt (Own (X).heap.size w') w' y (referP (encT t)))/\Bl (X) w') (Sz O (by omega)) (λu w' h=>d.go h.2) ?_ yn;rintro _ u4⟨⟨y,rfl,G⟩,J⟩;replace l:=(((l.go T).drew).go N).go Q;have aj:gN<_:=lt_of_get l;have m:y.d.length=32:=by rw[G.2.1];exact G.2.2.2.1
 replace d:=d.go J;refine Dx [] 11 (og f67 5 11) (γ (NV.cells ⟨2,g,f,i,none,0,0,y,none,0,0⟩).toArray) (λv z _=>ol_build 121 _ [(0,ι 2),(1,σ g f i),(3,γ y.cells.toArray)] _ rfl (by kernel_rfl) (Gm _ _ _ _ m)) d<|Dz [12] ?_;replace l:=l.go J;refine Yy 12 (og f67 5 12) gN ((NV.cells ⟨2,g,f,i,none,0,0,y,none,0,0⟩).toArray) (λ_=>AM 121 _ _ _ _ _ _ rfl (by kernel_rfl) (by kernel_rfl) l (by rw[I0,IJ (y:=⟨2,g,f,i,none,0,0,y,none,0,0⟩) m]) (by rw[IJ (y:=⟨2,g,f,i,none,0,0,y,none,0,0⟩) m];rfl) (QP _)) (λw' h=>h.below d (by omega) d.size) ?_ yn;intro w5 D;have aa:Rw gN w5 (NV.cells ⟨2,g,f,i,none,0,0,y,none,0,0⟩).toArray 121:=D.row l;replace d:=D.below d (by omega) d.size;have ae:=RefAt.go (L:=λ_=>True) (λb o _=>⟨D.other (by have:=o.1;omega),trivial⟩) G;refine Do ?_;exact JI 3 (γ (NV.cells ⟨2,g,f,i,none,0,0,y,none,0,0⟩).toArray) (λ_=>FE results67 _ gN ⟨2,g,f,i,none,0,0,y,none,0,0⟩ m (by kernel_rfl) aa) ⟨_,rfl,⟨⟨2,g,f,i,none,0,0,y,none,0,0⟩,rfl,⟨rfl,(F.go d).agk (by omega),KR _,ae,⟨rfl,Ab _,A8 _,A8 _,λ_=>⟨rfl,rfl⟩⟩,λj r hr=>by simp[nodeP]at hr⟩⟩,d⟩
end
end Go.Proofs.YtkdlocloepbmcaaGreat
