/- A node as a thing. -/
import Derived.Test.YtkdlocloepbmcaaGreatG22
set_option linter.unusedVariables false
set_option linter.unusedSimpArgs false
set_option maxRecDepth 100000
set_option maxHeartbeats 1000000
open Go.Proofs.Tryz Go.RowKit
namespace Go.Proofs.YtkdlocloepbmcaaGreat
namespace Pa
section
open Pt
abbrev Old(w:Γ):Θ:=λb=>b<w.heap.size
theorem _root_.Go.Proofs.YtkdlocloepbmcaaGreat.NodeAt.old{K:Θ}{w:Γ}{x:NV}{n:PN}(h:NodeAt K w x n):NodeAt (Old w) w x n:=h.go (λg _ a=>⟨rfl,a⟩)
theorem _root_.Go.Proofs.YtkdlocloepbmcaaGreat.RefAt.old{K:Θ}{w:Γ}{x:RV}{n:PR}(h:RefAt K w x n):RefAt (Old w) w x n:=h.go (λg _ a=>⟨rfl,a⟩)
theorem _root_.Go.Proofs.YtkdlocloepbmcaaGreat.NodeAt.at{w v:Γ}{x:NV}{n:PN}(h:NodeAt (Old w) w x n)(c:Bl w v):NodeAt (Old w) v x n:=h.go (λg a b=>⟨BF c g b,a⟩)
theorem _root_.Go.Proofs.YtkdlocloepbmcaaGreat.RefAt.at{w v:Γ}{x:RV}{n:PR}(h:RefAt (Old w) w x n)(c:Bl w v):RefAt (Old w) v x n:=h.go (λg a b=>⟨BF c g b,a⟩)
theorem _root_.Go.Proofs.YtkdlocloepbmcaaGreat.AgK.sk{K:Θ}{w:Γ}{a:Ω}{n c:Nat}{bs:τ}(h:AgK K w a n c bs):Sk An w a n c bs:=Ag.sk h.1
def NmS(f:Nat):Prop:=∀{K:Θ}{w:Γ}{y:RV}{r:PR},RefAt K w y r->(r.k=1->r.i.length<f)->κ 99 #[γ y.cells.toArray] w λv w'=>RTh w (nmN (f+1) r) v w'
def ThS(f:Nat):Prop:=∀{K:Θ}{w:Γ}{y:NV}{n:PN},NodeAt K w y n->n.ks.length<=16->n.v.length<=256->(∀r,(r=n.c∨r∈n.ks)->r.k=1->r.i.length<f)->κ 73 #[γ y.cells.toArray] w λv w'=>RTh w (thG (nmN (f+1)) n) v w'
theorem Xb7(w:Γ):NodeAt An w nz n0:=by
 have b:AgK An w none 0 0 []:=⟨⟨.inl ⟨rfl,rfl⟩,λ_=>⟨rfl,rfl⟩,rfl,λx a=>by cases a⟩,by omega,λg off e=>by cases e⟩;have c:isB z32:=λx a=>by rw[(Ce.1 a).2];omega
 exact⟨rfl,b,b,⟨rfl,rfl,c,rfl,b⟩,⟨rfl,Ab _,A8 _,by show 0<=_;omega,λ_=>⟨rfl,rfl⟩⟩,λj r h=>by simp[n0]at h⟩
theorem Z4{w:Γ}{a:Ω}{n c:Nat}{b:τ}(h:Ag w a n c b)(o:n<=140737488351232):κ 72 #[σ a n c] w λv w'=>(∃(x:NV)(l:Int),v=θ #[γ x.cells.toArray,ι l]/\NodeAt An w' x ((ND b).getD n0))/\Bl w w':=by
 refine(FZ b a n c w h o).mono ?_;rintro e w'⟨i,d⟩;cases f:ND b with
 |none=>rw[f]at d;exact⟨_,d,⟨nz,50,rfl,Xb7 w'⟩,i⟩
 |some m=>
  rw[f]at d;obtain⟨y,j,k⟩:=d;exact⟨_,j,⟨y,0,rfl,k.go (λg _ p=>⟨rfl,trivial⟩)⟩,i⟩
theorem XaU{b:τ}(d:isB b):((ND b).getD n0).ks.length<=16/\((ND b).getD n0).v.length<=256/\∀r,(r=((ND b).getD n0).c∨r∈((ND b).getD n0).ks)->r.k=1->r.i.length<b.length:=by
 cases f:ND b with
 |none=>exact⟨by decide,by decide,λr a g=>by
   rcases a with rfl|a
   ·exact absurd g (by decide)
   ·cases a⟩
 |some n=>
  obtain⟨t,hd,i,a⟩:=Fg d f;refine⟨?_,?_,λr e _=>?_⟩
  ·rcases EA a with h|h|h
   ·show n.ks.length<=16;rw[h.2.2.2.2.2.2.2];decide
   ·show n.ks.length<=16;rw[h.2.2.2.2.2.2.2];decide
   ·show n.ks.length<=16;omega
  ·rcases EA a with h|h|h
   ·exact h.2.2.2.2.1
   ·show n.v.length<=256;rw[h.2.2.2.2.1];decide
   ·exact h.2.2.1
  ·exact(GL d hd i r e).1
theorem Z5{K:Θ}{w:Γ}{y:RV}{r:PR}{f:Nat}(h:RefAt K w y r)(F:r.k=1)(U:r.i.length<f+1)(H:ThS f):Calls prog 99 #[γ (RV.cells y).toArray] w λe w'=>∃v',e=ω v'/\RTh w (nmN (f+2) r) v' w':=by
 have E:=h.old;have m:=h.len;have P:=h.1;have M:=h.2.1;have T:=h.2.2.1;have B:=h.2.2.2.2.1.b;have O:=h.2.2.2.2.2.1;have a:Bl w w:=Bl.refl w;refine Ck func99 22 ?_;have j:=XaU B;refine Hn 2 ((RV.cells y).toArray) 118 ?_;intro w1 i o c;have L:w.heap.size<=i:=by have:=a.size;have:=o.hg;omega
 refine Hx 7 (og f99 1 1) (ι y.k) (λ_=>AY 3 _ ⟨i,0,none⟩ _ _ rfl (by kernel_rfl) (RBx.mk c m).c0 υ3 rfl)<|Hq 5 (y.k:Int) (1:Int)<|Hx 7 (og f99 3 1) (σ y.a y.n y.c) (λ_=>AY 32 _ ⟨i,33,none⟩ _ _ rfl (by kernel_rfl) (RBx.mk c m).c33 υ32 rfl) ?_;replace a:=a.go o.below;refine Hc 0 (R:=λu w'=>(∃(x:NV)(D:Int),u=θ #[γ x.cells.toArray,ι D]/\NodeAt An w' x ((ND r.i).getD n0))/\Bl w1 w') (Z4 ((E.at a).2.2.2.2.1) (by omega)) ?_;rintro _ V⟨⟨k,N,rfl,d⟩,n⟩;refine Hn 3 ((NV.cells nz).toArray) 121 ?_;intro S g b l;refine Hy 0 (og f99 3 7) g ((NV.cells k).toArray) (λ_=>AM 121 _ _ _ _ _ 121 rfl (by kernel_rfl) (by kernel_rfl) l (Cm d.c.len) (Cg d.c.len) (Am (NV.one _))) ?_;intro p q;clear l;replace c:=c.go n;replace b:=b.put q;have I:i<g:=by have:=c.lt;have:=b.hg;omega
 replace a:=a.go n;have J:w.heap.size<=g:=by have:=a.size;have:=b.hg;omega
 replace a:=a.go b.below;replace c:=c.go b.below;replace d:=d.go (Keep.below b.below);have s:Rw g p ((NV.cells k).toArray) 121:=b.row;refine Hx 5 (og f99 4 0) (γ ((NV.cells k).toArray)) (λ_=>BW 121 _ _ _ _ _ _ rfl (by kernel_rfl) s υ121 rfl (Cm d.c.len))<|Hc 0 (R:=RTh p (thG (nmN (f+1)) ((ND r.i).getD n0))) (H d (j.1) (j.2.1) (λG A z=>by have:=j.2.2 G A z;omega)) ?_;rintro C Q⟨v,t⟩;refine Hr 6 (C) ?_;replace a:=a.go t;refine⟨_,rfl,?_,a⟩;unfold nmN;rw[Ai F];exact v
theorem SO{K:Θ}{w:Γ}{y:RV}{r:PR}(h:RefAt K w y r)(n:r.k=2):Calls prog 99 #[γ (RV.cells y).toArray] w λe w'=>∃v',e=ω v'/\RTh w (st r.d) v' w':=by
 have o:=h.old;have a:=h.len;have m:=h.1;have f:=h.2.1;have i:=h.2.2.1;have l:=h.2.2.2.2.1.b;have k:=h.2.2.2.2.2.1;have b:Bl w w:=Bl.refl w;refine Ck func99 22<|Hn 2 ((RV.cells y).toArray) 118 ?_;intro w1 c g d;have j:w.heap.size<=c:=by have:=b.size;have:=g.hg;omega
 refine Hx 7 (og f99 1 1) (ι y.k) (λ_=>AY 3 _ ⟨c,0,none⟩ _ _ rfl (by kernel_rfl) (RBx.mk d a).c0 υ3 rfl)<|Hz 5 (y.k:Int) (1:Int)<|Hq 6 (y.k:Int) (2:Int)<|Hx 7 (og f99 6 1) (γ (B8 y.d)) (λ_=>Em 44 _ c 1 (y.d.map (Value.int .u8)) _ rfl (by kernel_rfl) (RBx.mk d a).digest υ44 rfl (by rw[VV,AQ,a]))<|Hr 7 (.iface 88 (γ (B8 y.d))) ?_;rw[f];replace b:=b.go g.below;exact⟨_,rfl,⟨rfl,by rw[<-f];exact a,i⟩,b⟩
theorem SP{K:Θ}{w:Γ}{y:RV}{r:PR}(h:RefAt K w y r)(k:r.k≠1)(j:r.k≠2):Calls prog 99 #[γ (RV.cells y).toArray] w λe w'=>∃v',e=ω v'/\RTh w (no) v' w':=by
 have p:=h.old;have d:=h.len;have n:=h.1;have l:=h.2.1;have o:=h.2.2.1;have m:=h.2.2.2.2.1.b;have i:=h.2.2.2.2.2.1;have a:Bl w w:=Bl.refl w;refine Ck func99 22<|Hn 2 ((RV.cells y).toArray) 118 ?_;intro w1 c b f;have g:w.heap.size<=c:=by have:=a.size;have:=b.hg;omega
 refine Hx 7 (og f99 1 1) (ι y.k) (λ_=>AY 3 _ ⟨c,0,none⟩ _ _ rfl (by kernel_rfl) (RBx.mk f d).c0 υ3 rfl)<|Hz 5 (y.k:Int) (1:Int)<|Hz 6 (y.k:Int) (2:Int)<|Hr 13 (ν) ?_;replace a:=a.go b.below;exact⟨_,rfl,rfl,a⟩
theorem Z6{K:Θ}{w:Γ}{y:NV}{n:PN}(h:NodeAt K w y n)(l:n.k=1)(m:n.v.length<=256):Calls prog 73 #[γ (NV.cells y).toArray] w λe w'=>∃v',e=ω v'/\RTh w (leaf n.p n.v) v' w':=by
 have i:=h.old;have d:=h.c.len;have k:=h.k;have a:Bl w w:=Bl.refl w;refine Ck func73 44<|Hn 2 ((NV.cells y).toArray) 121 ?_;intro w1 b g f;have j:w.heap.size<=b:=by have:=a.size;have:=g.hg;omega
 refine Hx 7 (og f73 1 1) (ι y.k) (λ_=>AY 3 _ ⟨b,0,none⟩ _ _ rfl (by kernel_rfl) (NBx.mk f d).c0 υ3 rfl)<|Hq 5 (y.k:Int) (1:Int)<|Hx 7 (og f73 3 1) (σ y.pa y.pn y.pc) (λ_=>AY 32 _ ⟨b,1,none⟩ _ _ rfl (by kernel_rfl) (NBx.mk f d).c1 υ32 rfl)<|Hx 1 (og f73 3 3) (σ y.va y.vn y.vc) (λ_=>AY 32 _ ⟨b,2,none⟩ _ _ rfl (by kernel_rfl) (NBx.mk f d).c2 υ32 rfl)<|Hr 8 (.iface 157 (γ #[σ y.pa y.pn y.pc,σ y.va y.vn y.vc])) ?_;replace a:=a.go g.below;have c:=i.at a;exact⟨_,rfl,⟨_,_,_,_,_,_,rfl,c.p.sk,c.v.sk,by have:=c.v.1.l;omega,c.p.2.1⟩,a⟩
theorem Z7{K:Θ}{w:Γ}{y:NV}{n:PN}{f:Nat}(h:NodeAt K w y n)(A:n.k=2)(q:n.c.k=1->n.c.i.length<f)(s:NmS f):Calls prog 73 #[γ (NV.cells y).toArray] w λe w'=>∃v',e=ω v'/\RTh w (ext n.p (nmN (f+1) n.c)) v' w':=by
 have o:=h.old;have g:=h.c.len;have x:=h.k;have b:Bl w w:=Bl.refl w;refine Ck func73 44<|Hn 2 ((NV.cells y).toArray) 121 ?_;intro w1 d m a;have t:w.heap.size<=d:=by have:=b.size;have:=m.hg;omega
 refine Hx 7 (og f73 1 1) (ι y.k) (λ_=>AY 3 _ ⟨d,0,none⟩ _ _ rfl (by kernel_rfl) (NBx.mk a g).c0 υ3 rfl)<|Hz 5 (y.k:Int) (1:Int)<|Hq 6 (y.k:Int) (2:Int)<|Fq 5 (λv=>Rw d v ((NV.cells y).toArray) 121) (a) ?_;replace a:=a.go (Ac _ _).drew;refine Dx [0] 1 (og f73 5 1) (σ y.pa y.pn y.pc) (λv i _=>AY 32 _ ⟨d,1,none⟩ _ _ rfl (by kernel_rfl) (NBx.mk i g).c1 υ32 rfl) a<|Dx [2] 3 (og f73 5 3) (γ (RV.cells y.c).toArray) (λv i _=>Em 118 _ d 3 (RV.cells y.c) _ rfl (by kernel_rfl) (NBx.mk i g).child υ118 rfl (by rw[EW,RV.len g])) a<|Dz [4] ?_;replace b:=(b.go m.below).go (Ac _ _).drew;refine Yc 4 (R:=RTh w1.drew (nmN (f+1) n.c)) (s (o.at b).c q) (λu w' r=>a.go r.2) ?_ yn;rintro j z⟨k,l⟩;replace a:=a.go l;refine Dx [] 5 (og f73 5 5) (γ #[σ y.pa y.pn y.pc,j]) (λv i=>(λ_=>ol_build 167 _ rfl [(0,σ y.pa y.pn y.pc),(1,j)] (by kernel_rfl) _ (O1 k _ _ _))) a<|Dq [6,7] a<|Hr 4 (.iface 167 (γ #[σ y.pa y.pn y.pc,j])) ?_;replace b:=b.go l;have p:=o.at b;exact⟨_,rfl,⟨_,_,_,_,rfl,p.p.sk,p.p.2.1,k⟩,b⟩
theorem Z8{K:Θ}{w:Γ}{y:NV}{n:PN}{f:Nat}(h:NodeAt K w y n)(aj:n.k≠1)(ai:n.k≠2)(ak:n.ks.length<=16)(hv:n.v.length<=256)(hf:∀r,r∈n.ks->r.k=1->r.i.length<f)(ih:NmS f):Calls prog 73 #[γ (NV.cells y).toArray] w λe w'=>∃v',e=ω v'/\RTh w (br (λi=>nmN (f+1) (n.ks.getD i r0)) n.v) v' w':=by
 have Q:=h.old;have C:=h.c.len;have ap:=h.k;have al:=h.m.1;have a:Bl w w:=Bl.refl w;refine Ck func73 44<|Hn 2 ((NV.cells y).toArray) 121 ?_;intro w1 q N m;have ah:w.heap.size<=q:=by have:=a.size;have:=N.hg;omega
 refine Hx 7 (og f73 1 1) (ι y.k) (λ_=>AY 3 _ ⟨q,0,none⟩ _ _ rfl (by kernel_rfl) (NBx.mk m C).c0 υ3 rfl)<|Hz 5 (y.k:Int) (1:Int)<|Hz 6 (y.k:Int) (2:Int)<|Hx 10 (og f73 6 1) (σ y.va y.vn y.vc) (λ_=>AY 32 _ ⟨q,2,none⟩ _ _ rfl (by kernel_rfl) (NBx.mk m C).c2 υ32 rfl)<|Hn 1 (brc (λ_=>ν) (ε)) 160 ?_;intro w5 c l M;refine Hy 0 (og f73 6 4) c (brc (λ_=>ν) (σ y.va y.vn y.vc)) (λ_=>AM 160 _ _ _ _ _ 160 rfl (by kernel_rfl) (by kernel_rfl) M (by kernel_rfl) (by kernel_rfl) (CV (KA.none w))) ?_;intro w9 V;clear M;replace l:=l.put V;have ae:q<c:=by have:=m.lt;have:=l.hg;omega
 replace a:=a.go N.below;have U:w.heap.size<=c:=by have:=a.size;have:=l.hg;omega
 replace a:=a.go l.below;replace m:=m.go l.below;have I:Rw c w9 (brc (λ_=>ν) (σ y.va y.vn y.vc)) 160:=l.row;refine Hx 6 (og f73 7 1) (σ y.ka y.kn y.kc) (λ_=>AY 119 _ ⟨q,37,none⟩ _ _ rfl (by kernel_rfl) (NBx.mk m C).c37 υ119 rfl) ?_;refine Ho (X:=Nat×(Nat->Δ)) 5 (λx=>[(31,ι ((x.1:Nat):Int)),(30,ι y.kn),(29,σ y.ka y.kn y.kc),(3,π c),(2,ν)]) (λx v=>Bl w v/\Rw c v (brc x.2 (σ y.va y.vn y.vc)) 160/\KA v (λi=>if i<x.1 then nmN (f+1) (n.ks.getD i r0)else no) x.2/\x.1<=n.ks.length) (λx=>n.ks.length-x.1) (0,λ_=>ν) ⟨a,I,λi A=>rfl,A8 _⟩ ?_;clear a I;rintro⟨j,vs⟩ v⟨a,b,k,hj⟩ I1 P;simp only at*;by_cases Y:j<n.ks.length
 ·skip
  have B:=Q.at a;obtain⟨r,G⟩:∃r,n.ks[j]?=some r:=⟨n.ks[j],Ad Y⟩;obtain⟨gk,ok,z,ac,_,Z,S⟩:=B.ks j r G;have t:=S.len;have F:=S.go (L:=Old v) (λg _ hg=>⟨rfl,hg⟩);rw[ac]at P⊢;refine Ht 2 ((j:Int)<(y.kn:Int))<|Hx 11 (og f73 9 1) (ψ gk (ok+j*34)) (λ_=>AW 119 _ _ gk ok j y.kn y.kc 34 118 rfl (by kernel_rfl) (by kernel_rfl) (by omega) υ119 (by kernel_rfl))<|Hx 0 (og f73 9 2) (γ (RV.cells z).toArray) (λ_=>Em 118 _ gk (ok+j*34) (RV.cells z) _ rfl (by kernel_rfl) Z υ118 rfl (by rw[EW,RV.len t]))<|Hn 0 ((RV.cells rz).toArray) 118 ?_;intro am u d J;refine Hy 1 (og f73 9 5) u ((RV.cells z).toArray) (λ_=>AM 118 _ _ _ _ _ 118 rfl (by kernel_rfl) (by kernel_rfl) J (CD t) (CL t) (Am (RV.one _))) ?_;intro O W;clear J;replace d:=d.put W;have ad:c<u:=by have:=b.lt;have:=d.hg;omega
  have af:w.heap.size<=u:=by have:=a.size;have:=d.hg;omega
  replace a:=a.go d.below;replace b:=b.go d.below;replace k:=k.go d.below;replace F:=F.go (Keep.below d.below);have T:Rw u O ((RV.cells z).toArray) 118:=d.row;refine Hx 4 (og f73 10 1) (γ ((RV.cells z).toArray)) (λ_=>BW 118 _ _ _ _ _ _ rfl (by kernel_rfl) T υ118 rfl (CD t))<|Hc 0 (R:=RTh O (nmN (f+1) r)) (ih F (hf r (AL G))) ?_;rintro s ao⟨o,E⟩;refine Hx 1 (og f73 10 4) (ψ c (0+j*1)) (λ_=>ol_indexK (kd:= .i64) 158 _ _ c 0 j 16 1 85 rfl (by kernel_rfl) (by kernel_rfl) (by omega) (by omega) υ158 (by kernel_rfl)) ?_;replace b:=b.go E;refine Ha 0 (og f73 10 5) c (0+j*1) (s) (λ_=>ol_setC 85 _ _ c _ _ 160 _ b rfl (by kernel_rfl) (by kernel_rfl) (by show 0+j*1<17;omega) o.cells o.one (by kernel_rfl)) ?_;intro ab D;replace k:=k.go E;have H:=Nt.rows b (Fy k) D.touch;refine Hw 4 (ι (IntKind.i64.wrap ((j:Int)+(1:Int)))) (ι ((j+1:Nat):Int)) (Ao (Value.int .i64) ((Cy (by omega) (by omega)).trans (by omega))) ?_;have aa:KA ab (λi=>if i<(j+1)then nmN (f+1) (n.ks.getD i r0)else no) (updv vs j s):=λi A=>by
   replace k:=k.nt H;replace o:=o.nt H;have:=(k.put (i:=j) o) i A;unfold Pt.upd at this;dsimp only at this⊢;by_cases e:i=j
   ·rw[Ai e]at this;rw[Ai (by omega),e,show n.ks.getD j r0=r from by rw[List.getD,G];rfl];rw[e]at this;exact this
   ·rw[Ae e]at this;by_cases p:i<j
    ·rw[Ai p]at this;rw[Ai (by omega)];exact this
    ·rw[Ae p]at this;rw[Ae (by omega)];exact this
  replace a:=(a.go E).tou D.touch U;replace b:=b.set (cells':=(brc (updv vs j s) (σ y.va y.vn y.vc))) D (by rw[A6,BE];exact FT _ _ _ _ (by omega));exact P 2 (j+1,(updv vs j s)) ⟨a,b,aa,by simp only;omega⟩ (by simp only;omega) (λ_=>by kernel_rfl)
 obtain rfl:j=n.ks.length:=by omega
 refine Hf 2 (((n.ks.length:Nat):Int)<(y.kn:Int))<|Hx 11 (og f73 12 0) (γ (brc vs (σ y.va y.vn y.vc))) (λ_=>BW 160 _ _ _ _ _ _ rfl (by kernel_rfl) b υ160 rfl (by kernel_rfl))<|Hr 5 (.iface 160 (γ (brc vs (σ y.va y.vn y.vc)))) ?_;have B:=Q.at a;refine⟨_,rfl,⟨vs,_,_,_,rfl,λi A=>?_,B.v.sk,by have:=B.v.1.l;omega⟩,a⟩;have:=k i A;dsimp only at this⊢;by_cases p:i<n.ks.length
 ·rw[Ai p]at this;exact this
 ·rw[Ae p]at this;rw[show n.ks.getD i r0=r0 from by rw[List.getD,CR (by omega)];rfl];exact this
theorem X4{f:Nat}(d:NmS f):ThS f:=λ{K w y n} h g e c=>by
 by_cases a:n.k=1
 ·rw[show thG (nmN (f+1)) n=leaf n.p n.v from by unfold thG;rw[Ai a]];exact Z6 h a e
 by_cases b:n.k=2
 ·rw[show thG (nmN (f+1)) n=ext n.p (nmN (f+1) n.c)from by unfold thG;rw[Ae a,Ai b]];exact Z7 h b (c n.c (.inl rfl)) d
 ·rw[show thG (nmN (f+1)) n=br (λi=>nmN (f+1) (n.ks.getD i r0)) n.v from by unfold thG;rw[Ae a,Ae b]];exact Z8 h a b g e (λr j=>c r (.inr j)) d
theorem SQ:∀f,NmS f/\ThS f
 |0=>by
  have c:NmS 0:=λ{K w y r} h d=>by
   have a:r.k≠1:=λe=>by have:=d e;omega
   by_cases b:r.k=2
   ·have:=SO h b;rw[show nmN (0+1) r=st r.d from by unfold nmN;rw[Ae a,Ai b]];exact this
   ·have:=SP h a b;rw[show nmN (0+1) r=no from by unfold nmN;rw[Ae a,Ae b]];exact this
  exact⟨c,X4 c⟩
 |f+1=>by
  obtain⟨_,g⟩:=SQ f;have c:NmS (f+1):=λ{K w y r} h d=>by
   by_cases a:r.k=1
   ·exact Z5 h a (d a) g
   by_cases b:r.k=2
   ·have:=SO h b;rw[show nmN (f+1+1) r=st r.d from by unfold nmN;rw[Ae a,Ai b]];exact this
   ·have:=SP h a b;rw[show nmN (f+1+1) r=no from by unfold nmN;rw[Ae a,Ae b]];exact this
  exact⟨c,X4 c⟩
theorem UP{K:Θ}{w:Γ}{y:NV}{n:PN}(h:NodeAt K w y n)(a:NR n=true):κ 73 #[γ y.cells.toArray] w λv w'=>RTh w (TH n) v w':=by
 refine(SQ 32).2 h ?_ ?_ (λr b _=>IC (Oz a r b))
 ·rcases EA a with h|h|h
  ·rw[h.2.2.2.2.2.2.2];decide
  ·rw[h.2.2.2.2.2.2.2];decide
  ·omega
 ·rcases EA a with h|h|h
  ·exact h.2.2.2.2.1
  ·rw[h.2.2.2.2.1];decide
  ·exact h.2.2.1
end
section
open Di (dref)
open Pt
structure NsA(w:Γ)(a:Ω)(n c:Nat)(ns:List τ):Prop where
 len:n=ns.length
 row:∀j b,ns[j]?=some b->∃g off a' n' c',a=some ⟨g,off,none⟩/\w.cell? ⟨g,off+j*1,none⟩=some (σ a' n' c')/\Sk An w a' n' c' b/\n'<=140737488351232
theorem NsA.go{w v:Γ}{a:Ω}{n c:Nat}{ns:List τ}(h:NsA w a n c ns)(d:Λ w v):NsA v a n c ns:=⟨h.len,λj b f=>by
 obtain⟨g,off,a',n',c',e,k,i,l⟩:=h.row j b f;exact⟨g,off,a',n',c',e,AS d k,i.go d,l⟩⟩
theorem NsA.isB{w:Γ}{a:Ω}{n c:Nat}{ns:List τ}(h:NsA w a n c ns):∀b∈ns,isB b:=λb f=>by
 obtain⟨j,d⟩:=List.getElem?_of_mem f;obtain⟨g,off,a',n',c',i,k,e,l⟩:=h.row j b d;exact e.ag.b
structure NewM(w w':Γ)(g:Nat):Prop where
 hg:g=w.heap.size
 hw:w'=w.alloc (.map #[] 0)
theorem NewM.below{w w':Γ}{g:Nat}(h:NewM w w' g):Λ w w':=by rw[h.hw];exact(Ac _ _).alloc (Ab _) _
theorem NewM.row{w w':Γ}{g:Nat}(h:NewM w w' g):w'.heap[g]?=some (.map #[] 0):=by rw[h.hw,h.hg];exact Ak _ _
theorem XbQ{r:Option Nat}{m:Nat}{P:Program}{ds:List Deferred}{n:Nat}{Q:Exit->Act->Γ->Prop}{s:_root_.Go.Proofs.YtkdlocloepbmcaaGreat.Sta}{w:Γ}(k:Nat)(h:∀w' g,NewM w w' g->HD r m P ds n Q (pv (au P n k w s) (.map (some g))) w')(a:∀fb,cr P n fb k w s=some (au P n k w s,w, .ok (.value (.map (some w.heap.size))) (w.alloc (.map #[] 0))):=by intro _;kernel_rfl):HD r m P ds n Q s w:= .mk λfb=>by
 obtain⟨c,_⟩:=Iy (a fb);exact FU k c (Vj (λb=>by obtain⟨_,o,d,f,e⟩:=Iy (a b);exact⟨o,d,f, .inl e⟩) (h _ _ ⟨rfl,rfl⟩) fb)
def topP(d:τ):Pt:=if d=dref [128]then no else st d
theorem Rs{w:Γ}{a:Ω}{n c:Nat}{b:τ}(h:Sk An w a n c b)(d:n<=140737488351232):κ 35 #[σ a n c] w λv w'=>RVl w (γ (B8 (dref b))) v w':=(KN a n c b w h.ag d).mono λe w' h=>⟨_,h.1,rfl,h.2⟩
theorem Qa(b:τ)(r:List τ)(kn:Kn):knP (b::r) kn=knP r (match findK (dref b) kn with
 |some _=>kn
 |none=>match ND b with
  |none=>kn
  |some n=>kn++[(dref b,TH n)]):=rfl
structure KX where
 j:Nat
 kn:Kn
theorem Z9{w:Γ}{a:Ω}{n c:Nat}{b:τ}(h:Sk An w a n c b)(f:n<=140737488351232)(hd:ND b=none):κ 72 #[σ a n c] w λv w'=>RVl w (θ #[γ nz.cells.toArray,ι 50]) v w':=by
 refine(FZ b a n c w h.ag f).mono ?_;rintro e w'⟨g,d⟩;rw[hd]at d;exact⟨_,d,rfl,g⟩
theorem X5{w:Γ}{a:Ω}{n c:Nat}{b:τ}(h:Sk An w a n c b)(k:n<=140737488351232){m:PN}(hd:ND b=some m):κ 72 #[σ a n c] w λv w'=>(∃x:NV,v=θ #[γ x.cells.toArray,ι 0]/\NodeAt An w' x m)/\Bl w w':=by
 refine(FZ b a n c w h.ag k).mono ?_;rintro e w'⟨j,d⟩;rw[hd]at d;obtain⟨y,f,i⟩:=d;exact⟨_,f,⟨y,rfl,i.go (λg _ l=>⟨rfl,trivial⟩)⟩,j⟩
theorem Nu{w:Γ}{a:Ω}{n c:Nat}{ns:List τ}(hN:NsA w a n c ns)(hn:n<=9223372036854775807):Calls prog 43 #[σ a n c] w λe w'=>∃v',e=ω v'/\(∃gK,v'= .map (some gK)/\MKn w' gK (knP ns [])/\w.heap.size<=gK)/\Bl w w':=by
 obtain rfl:n=ns.length:=hN.len;have g:Bl w w:=Bl.refl w;refine Ck func43 35<|XbQ 7 ?_;intro w1 D t;have al:w.heap.size<=D:=by have:=g.size;have:=t.hg;omega
 have f:MKn w1 D []:=⟨_,_,t.row,trivial⟩;replace g:=g.go t.below;refine Ho (X:=KX) 12 (λ(x:KX)=>[(12,ι ((x.j:Nat):Int)),(11,ι ((ns.length:Nat):Int)),(10,σ a ns.length c),(3, .map (some D)),(2, .map none)]) (λ(x:KX) v=>Bl w v/\MKn v D x.kn/\x.j<=ns.length/\knP (ns.drop x.j) x.kn=knP ns []/\KnOk x.kn) (λ(x:KX)=>ns.length-x.j) ⟨0,[]⟩ ⟨g,f,A8 _,rfl,λx N=>by cases N⟩ ?_;clear g f;rintro⟨j,kn⟩ v⟨g,f,hj,p,S⟩ I1 aa;simp only at*;by_cases H:j<ns.length
 ·skip
  have a6:=hN.go g;obtain⟨b,hb⟩:∃b,ns[j]?=some b:=⟨ns[j],Ad H⟩;obtain⟨gn,y,a2,n2,c2,rfl,Y,h,t⟩:=a6.row j b hb;have af:=h.ag.b;rw[Bv H,show ns[j]=b from BJ ((Ad H).symm.trans hb),Qa]at p;cases E:findK (dref b) kn with
  |some t1=>
   simp only[E]at p;refine Ht 2 ((j:Int)<((ns.length:Nat):Int))<|Hx 10 (og f43 4 0) (ψ gn (y+j*1)) (λ_=>AW 30 _ _ gn y j ns.length c 1 32 rfl (by kernel_rfl) (by kernel_rfl) H υ30 (by kernel_rfl))<|Hx 0 (og f43 4 1) (σ a2 n2 c2) (λ_=>AY 32 _ ⟨gn,y+j*1,none⟩ _ _ rfl (by kernel_rfl) Y υ32 rfl)<|Hc 6 (R:=RVl v (γ (B8 (dref b)))) (Rs h t) ?_;rintro _ w3⟨rfl,V⟩;replace f:=f.keep (Nt.below V) (BF V _ f.lt);refine Hn 0 (B8 z32) 44 ?_;intro w5 g6 C ak;refine Hy 0 (og f43 5 3) g6 (B8 (dref b)) (λ_=>AM 44 _ _ _ _ _ 44 rfl (by kernel_rfl) (by kernel_rfl) ak (D5 (dref_len _)) ((B8_size _).trans ((show z32.length=32 from rfl).trans ((dref_len _).symm.trans (B8_size _).symm))) (B8_one _)) ?_;intro w9 aq;clear ak;replace g:=g.go V;replace C:=C.put aq;have bi:w.heap.size<=g6:=(by have:=g.size;have:=C.hg;omega);replace g:=g.go C.below;replace f:=f.keep (Nt.below C.below) (BF C.below _ f.lt);replace h:=h.go V;replace h:=h.go C.below;have a0:Rw g6 w9 (B8 (dref b)) 44:=C.row;refine Hx 6 (og f43 6 1) (γ (B8 (dref b))) (λ_=>BW 44 _ _ _ _ _ _ rfl (by kernel_rfl) a0 υ44 rfl (D5 (dref_len _))) ?_;obtain⟨O,M,l⟩:=Hh f (d:=dref b) (dref_len _);rw[E]at l;simp only at l;have a9:t1.isNo=false:=by obtain⟨y1,a3,e1⟩:=FI E;have:=(S y1 a3).2;rw[e1]at this;cases t1<;>first|rfl|cases this
   refine Hx 0 (og f43 6 2) (O) (λ_=>M _ _ _ _ rfl (by kernel_rfl) (by kernel_rfl))<|Hx 0 (og f43 6 3) (β true) (λ_=>E1 (ol_nen l 20 _ rfl (by kernel_rfl) rfl) (Ao (λq=>β (!q)) a9))<|Hw 8 (ι (IntKind.i64.wrap ((j:Int)+(1:Int)))) (ι ((j+1:Nat):Int)) (Ao (Value.int .i64) ((Cy (by omega) (by omega)).trans (by omega))) ?_;exact aa 2 ⟨j+1,kn⟩ ⟨g,f,by simp only;omega,p,S⟩ (by simp only;omega) (λ_=>by kernel_rfl)
  |none=>
   simp only[E]at p;cases I:ND b with
   |none=>
    simp only[I]at p;refine Ht 2 ((j:Int)<((ns.length:Nat):Int))<|Hx 10 (og f43 4 0) (ψ gn (y+j*1)) (λ_=>AW 30 _ _ gn y j ns.length c 1 32 rfl (by kernel_rfl) (by kernel_rfl) H υ30 (by kernel_rfl))<|Hx 0 (og f43 4 1) (σ a2 n2 c2) (λ_=>AY 32 _ ⟨gn,y+j*1,none⟩ _ _ rfl (by kernel_rfl) Y υ32 rfl)<|Hc 6 (R:=RVl v (γ (B8 (dref b)))) (Rs h t) ?_;rintro _ bn⟨rfl,Q⟩;replace f:=f.keep (Nt.below Q) (BF Q _ f.lt);refine Hn 0 (B8 z32) 44 ?_;intro bu U z ab;refine Hy 0 (og f43 5 3) U (B8 (dref b)) (λ_=>AM 44 _ _ _ _ _ 44 rfl (by kernel_rfl) (by kernel_rfl) ab (D5 (dref_len _)) ((B8_size _).trans ((show z32.length=32 from rfl).trans ((dref_len _).symm.trans (B8_size _).symm))) (B8_one _)) ?_;intro ao aw;clear ab;replace g:=g.go Q;replace z:=z.put aw;have bg:w.heap.size<=U:=(by have:=g.size;have:=z.hg;omega);replace g:=g.go z.below;replace f:=f.keep (Nt.below z.below) (BF z.below _ f.lt);replace h:=h.go Q;replace h:=h.go z.below;have F:Rw U ao (B8 (dref b)) 44:=z.row;refine Hx 6 (og f43 6 1) (γ (B8 (dref b))) (λ_=>BW 44 _ _ _ _ _ _ rfl (by kernel_rfl) F υ44 rfl (D5 (dref_len _))) ?_;obtain⟨O,M,l⟩:=Hh f (d:=dref b) (dref_len _);rw[E]at l;simp only at l;obtain rfl:O=ν:=l;refine Hx 0 (og f43 6 2) (ν) (λ_=>M _ _ _ _ rfl (by kernel_rfl) (by kernel_rfl))<|Hc 9 (R:=RVl ao (θ #[γ (NV.cells nz).toArray,ι 50])) (Z9 h t I) ?_;rintro _ bm⟨rfl,L⟩;replace f:=f.keep (Nt.below L) (BF L _ f.lt);refine Hn 3 ((NV.cells nz).toArray) 121 ?_;intro bq W o ae;refine Hy 0 (og f43 7 6) W ((NV.cells nz).toArray) (λ_=>AM 121 _ _ _ _ _ 121 rfl (by kernel_rfl) (by kernel_rfl) ae (Cm (show nz.c.d.length=32 from rfl)) (Cg (show nz.c.d.length=32 from rfl)) (Am (NV.one _))) ?_;intro a5 ar;clear ae;replace F:=F.go L;replace o:=o.put ar;have ba:U<W:=(by have:=F.lt;have:=o.hg;omega);replace g:=g.go L;have bh:w.heap.size<=W:=(by have:=g.size;have:=o.hg;omega);replace g:=g.go o.below;replace f:=f.keep (Nt.below o.below) (BF o.below _ f.lt);replace h:=h.go L;replace h:=h.go o.below;replace F:=F.go o.below;have bj:Rw W a5 ((NV.cells nz).toArray) 121:=o.row;refine Hw 14 (ι (IntKind.i64.wrap ((j:Int)+(1:Int)))) (ι ((j+1:Nat):Int)) (Ao (Value.int .i64) ((Cy (by omega) (by omega)).trans (by omega))) ?_;exact aa 2 ⟨j+1,kn⟩ ⟨g,f,by simp only;omega,p,S⟩ (by simp only;omega) (λ_=>by kernel_rfl)
   |some m=>
    simp only[I]at p;have am:=(Gk af I).1;have a8:=L5 af I;have ay:KnOk (kn++[(dref b,TH m)]):=λx N=>(AP.1 N).elim (S x) (λN=>by rw[Bz.1 N];exact⟨Xad a8 am,Xab m⟩);refine Ht 2 ((j:Int)<((ns.length:Nat):Int))<|Hx 10 (og f43 4 0) (ψ gn (y+j*1)) (λ_=>AW 30 _ _ gn y j ns.length c 1 32 rfl (by kernel_rfl) (by kernel_rfl) H υ30 (by kernel_rfl))<|Hx 0 (og f43 4 1) (σ a2 n2 c2) (λ_=>AY 32 _ ⟨gn,y+j*1,none⟩ _ _ rfl (by kernel_rfl) Y υ32 rfl)<|Hc 6 (R:=RVl v (γ (B8 (dref b)))) (Rs h t) ?_;rintro _ bo⟨rfl,P⟩;replace f:=f.keep (Nt.below P) (BF P _ f.lt);have ap:=f.lt;refine Hn 0 (B8 z32) 44 ?_;intro bp B r ad;refine Hy 0 (og f43 5 3) B (B8 (dref b)) (λ_=>AM 44 _ _ _ _ _ 44 rfl (by kernel_rfl) (by kernel_rfl) ad (D5 (dref_len _)) ((B8_size _).trans ((show z32.length=32 from rfl).trans ((dref_len _).symm.trans (B8_size _).symm))) (B8_one _)) ?_;intro ah ax;clear ad;replace g:=g.go P;replace r:=r.put ax;have bf:w.heap.size<=B:=(by have:=g.size;have:=r.hg;omega);replace g:=g.go r.below;replace f:=f.keep (Nt.below r.below) (BF r.below _ f.lt);replace h:=h.go P;replace h:=h.go r.below;have i:Rw B ah (B8 (dref b)) 44:=r.row;have av:D<B:=(by have:=ap;have:=r.hg;omega);refine Hx 6 (og f43 6 1) (γ (B8 (dref b))) (λ_=>BW 44 _ _ _ _ _ _ rfl (by kernel_rfl) i υ44 rfl (D5 (dref_len _))) ?_;obtain⟨O,M,l⟩:=Hh f (d:=dref b) (dref_len _);rw[E]at l;simp only at l;obtain rfl:O=ν:=l;refine Hx 0 (og f43 6 2) (ν) (λ_=>M _ _ _ _ rfl (by kernel_rfl) (by kernel_rfl))<|Hc 9 (R:=λu w'=>(∃x:NV,u=θ #[γ x.cells.toArray,ι 0]/\NodeAt An w' x m)/\Bl ah w') (X5 h t I) ?_;rintro _ bl⟨⟨T,rfl,A⟩,K⟩;replace f:=f.keep (Nt.below K) (BF K _ f.lt);refine Hn 3 ((NV.cells nz).toArray) 121 ?_;intro bx G k ac;refine Hy 0 (og f43 7 6) G ((NV.cells T).toArray) (λ_=>AM 121 _ _ _ _ _ 121 rfl (by kernel_rfl) (by kernel_rfl) ac (Cm A.c.len) (Cg A.c.len) (Am (NV.one _))) ?_;intro ai a1;clear ac;replace i:=i.go K;replace k:=k.put a1;have bb:B<G:=(by have:=i.lt;have:=k.hg;omega);replace g:=g.go K;have bc:w.heap.size<=G:=(by have:=g.size;have:=k.hg;omega);replace g:=g.go k.below;replace f:=f.keep (Nt.below k.below) (BF k.below _ f.lt);replace h:=h.go K;replace h:=h.go k.below;replace i:=i.go k.below;replace A:=A.go (Keep.below k.below);have s:Rw G ai ((NV.cells T).toArray) 121:=k.row;have aj:D<B/\B<G:=⟨av,by omega⟩;refine Fq 10 (λv=>Rw B v (B8 (dref b)) 44/\Rw G v ((NV.cells T).toArray) 121) (⟨i,s⟩) ?_;replace f:=f.keep (Nt.below (Ac _ _).drew) (BF (Ac _ _).drew _ f.lt);replace i:=i.go (Ac _ _).drew;replace s:=s.go (Ac _ _).drew;refine Dx [0] 1 (og f43 9 1) (γ (B8 (dref b))) (λv hv _=>BW 44 _ _ _ _ _ _ rfl (by kernel_rfl) hv.1 υ44 rfl (D5 (dref_len _))) ⟨i,s⟩ ?_;replace A:=A.go (Keep.below (Ac _ _).drew);refine Dx [] 2 (og f43 9 2) (γ ((NV.cells T).toArray)) (λv hv _=>BW 121 _ _ _ _ _ _ rfl (by kernel_rfl) hv.2 υ121 rfl (Cm A.c.len)) ⟨i,s⟩<|Dz [3] ?_;refine Yc 3 (R:=RTh ai.drew (TH m)) (UP A am) (λu w' h9=>⟨i.go h9.2,s.go h9.2⟩) ?_ yn;rintro bw bk⟨az,J⟩;replace f:=f.keep (Nt.below J) (BF J _ f.lt);refine Dz [4] ?_;obtain⟨wu,a4,a7,Z,bv⟩:=U9 f (dref_len b) E az;replace i:=i.go J;replace s:=s.go J;refine Ys 4 (og f43 9 4) (λ_=>a4 _ _ _ _ _ rfl (by kernel_rfl) (by kernel_rfl) (by kernel_rfl)) ⟨i.past Z (by have:=aj;omega),s.past Z (by have:=aj;omega)⟩ ?_ yn;replace f:=a7;refine Do<|Hw 3 (ι (IntKind.i64.wrap ((j:Int)+(1:Int)))) (ι ((j+1:Nat):Int)) (Ao (Value.int .i64) ((Cy (by omega) (by omega)).trans (by omega))) ?_;replace g:=((g.go (Ac _ _).drew).go J).tou Z al;exact aa 2 ⟨j+1,kn++[(dref b,TH m)]⟩ ⟨g,f,by simp only;omega,p,ay⟩ (by simp only;omega) (λ_=>by kernel_rfl)
 obtain rfl:j=ns.length:=by omega
 refine Hf 2 (((ns.length:Nat):Int)<((ns.length:Nat):Int))<|Hr 16 (.map (some D)) ?_;rw[List.drop_length]at p;rw[<-p];exact⟨_,rfl,⟨D,rfl,f,al⟩,g⟩
theorem X6{ρ:Φ}{w:Γ}{x y:Operand}{o:Oper}{xs ys:τ}(b:o.op= .binOp .neq 44 x y 44)(f:ρ x=γ (B8 xs))(d:ρ y=γ (B8 ys))(a:xs.length=32)(c:ys.length=32):(execOp ρ o).run prog w= .ok (.value (β (!(xs==ys)))) w:=by
 have e:=Xbp xs ys a c w;unfold execOp;rw[b];simp only[f,d];go_simp
theorem ol_eqD{ρ:Φ}{w:Γ}{x y:Operand}{o:Oper}{xs ys:τ}(b:o.op= .binOp .eql 44 x y 44)(f:ρ x=γ (B8 xs))(d:ρ y=γ (B8 ys))(a:xs.length=32)(c:ys.length=32):(execOp ρ o).run prog w= .ok (.value (β (xs==ys))) w:=by
 have e:=Xbp xs ys a c w;unfold execOp;rw[b];simp only[f,d];go_simp
theorem Qb(w:Γ):κ 34 #[] w λv w'=>RVl w (γ (B8 (dref [128]))) v w':=(I3 w).mono λe w' h=>⟨_,h.1,rfl,h.2⟩
def RNw(w:Γ)(t:Pt)(kn:Kn)(us:List τ):Δ->Γ->Prop:=λu w'=>(∃g gK gU,u=π g/\PAt w' g gK gU t kn us/\w.heap.size<=g/\w.heap.size<=gK/\w.heap.size<=gU)/\Bl w w'
def RCl(w:Γ)(gK:Nat)(t:Pt)(kn:Kn)(us:List τ):Δ->Γ->Prop:=λu w'=>(∃g gU,u=π g/\PAt w' g gK gU t kn us/\w.heap.size<=g/\w.heap.size<=gU)/\Bl w w'
theorem ZA{w:Γ}{d:τ}{a:Ω}{n c:Nat}{ns:List τ}(hd:d.length=32)(A:isB d)(q:NsA w a n c ns)(K:n<=9223372036854775807)(M:d≠dref [128]):Calls prog 19 #[γ (B8 d),σ a n c] w λe w'=>∃v',e=ω v'/\RNw w (st d) (knP ns []) [] v' w':=by
 have J:=Ro ns q.isB (kn:=[]) (λx p=>by cases p);have h:Bl w w:=Bl.refl w;refine Ck func19 20<|Hn 2 (B8 d) 44 ?_;intro w1 s r g;have T:w.heap.size<=s:=by have:=h.size;have:=r.hg;omega
 replace q:=q.go r.below;refine Hc 6 (R:=λu w'=>(∃gK,u= .map (some gK)/\MKn w' gK (knP ns [])/\w1.heap.size<=gK)/\Bl w1 w') (Nu q K) ?_;rintro _ X⟨⟨gK,rfl,E,W⟩,z⟩;replace h:=h.go r.below;have H:w.heap.size<=gK:=by have:=h.size;omega
 have b:=E;have Q:=b.lt;refine XbQ 0 ?_;intro C gU l;replace h:=h.go z;have F:w.heap.size<=gU:=by have:=h.size;have:=l.hg;omega
 have G:gK≠gU:=by have:=l.hg;omega
 replace b:=b.keep (Nt.below l.below) (BF l.below _ b.lt);have f:MUs C gU []:=⟨_,_,l.row,⟨rfl,λx p=>by cases p⟩,⟨λx p=>(by cases p),List.nodup_nil⟩⟩;have U:=f.lt;refine Hn 1 (#[ν, .map (some gK), .map (some gU)]) 87 ?_;intro y k i j;replace g:=(g.go z).go l.below;have O:s<k:=by have:=g.lt;have:=i.hg;omega
 have P:gK<k:=by have:=b.lt;have:=i.hg;omega
 have N:gU<k:=by have:=f.lt;have:=i.hg;omega
 replace h:=h.go l.below;have t:w.heap.size<=k:=by have:=h.size;have:=i.hg;omega
 replace b:=b.keep (Nt.below i.below) (BF i.below _ b.lt);replace f:=f.keep (BF i.below _ f.lt);replace g:=g.go i.below;refine Fq 5 (λv=>Rw s v (B8 d) 44) (g) ?_;replace b:=b.keep (Nt.below (Ac _ _).drew) (BF (Ac _ _).drew _ b.lt);replace f:=f.keep (BF (Ac _ _).drew _ f.lt);replace g:=g.go (Ac _ _).drew;refine Dx [] 0 (og f19 2 0) (γ (B8 d)) (λv B _=>BW 44 _ _ _ _ _ _ rfl (by kernel_rfl) B υ44 rfl (D5 hd)) g<|Dz [1] ?_;refine Yc 1 (R:=RVl y.drew (γ (B8 (dref [128])))) (Qb y.drew) (λu w' L=>g.go L.2) ?_ yn;rintro _ I⟨rfl,m⟩;replace b:=b.keep (Nt.below m) (BF m _ b.lt);replace f:=f.keep (BF m _ f.lt);replace g:=g.go m;refine Dx [] 2 (og f19 2 2) (β true) (λv B _=>E1 (X6 (xs:=d) (ys:=dref [128]) rfl (by kernel_rfl) (by kernel_rfl) hd (dref_len _)) (Ao β (show(!(d==dref [128]))=true from by simp[M]))) g<|Do<|Hx 4 (og f19 3 1) (γ (B8 d)) (λ_=>BW 44 _ _ _ _ _ _ rfl (by kernel_rfl) g υ44 rfl (D5 hd)) ?_;have V:ThA I (st d) (.iface 88 (γ (B8 d))):=⟨rfl,hd,A⟩;replace j:=(j.go (Ac _ _).drew).go m;refine Ha 3 (og f19 3 5) k (0) (.iface 88 (γ (B8 d))) (λ_=>ol_setC 85 _ _ k _ _ 87 _ j rfl (by kernel_rfl) (by kernel_rfl) (by show 0<3;omega) rfl rfl (by kernel_rfl)) ?_;intro C o;have D:=Nt.rows j (Kc (show ThA w no ν from rfl) (λ_ e=>by cases e) (λ_ e=>by cases e)) o.touch;have S:=j.lt;replace b:=b.keep D (o.touch.block _ b.lt (by omega));replace f:=f.keep (o.touch.block _ f.lt (by omega));refine Hr 9 (π k) ?_;replace h:=(((h.go i.below).go (Ac _ _).drew).go m).tou o.touch t;replace j:=j.set (cells':=#[.iface 88 (γ (B8 d)), .map (some gK), .map (some gU)]) o (by kernel_rfl);exact⟨_,rfl,⟨k,gK,gU,rfl,⟨⟨_,j,⟨rfl,hd,A⟩⟩,b,f,G,trivial,J⟩,t,H,F⟩,h⟩
theorem XaV{w:Γ}{d:τ}{a:Ω}{n c:Nat}{ns:List τ}(hd:d.length=32)(Q:isB d)(o:NsA w a n c ns)(F:n<=9223372036854775807)(H:d=dref [128]):Calls prog 19 #[γ (B8 d),σ a n c] w λe w'=>∃v',e=ω v'/\RNw w no (knP ns []) [] v' w':=by
 have E:=Ro ns o.isB (kn:=[]) (λx m=>by cases m);have g:Bl w w:=Bl.refl w;refine Ck func19 20<|Hn 2 (B8 d) 44 ?_;intro w1 r q f;have N:w.heap.size<=r:=by have:=g.size;have:=q.hg;omega
 replace o:=o.go q.below;refine Hc 6 (R:=λu w'=>(∃gK,u= .map (some gK)/\MKn w' gK (knP ns [])/\w1.heap.size<=gK)/\Bl w1 w') (Nu o F) ?_;rintro _ T⟨⟨gK,rfl,A,S⟩,t⟩;replace g:=g.go q.below;have D:w.heap.size<=gK:=by have:=g.size;omega
 have b:=A;have M:=b.lt;refine XbQ 0 ?_;intro I gU j;replace g:=g.go t;have B:w.heap.size<=gU:=by have:=g.size;have:=j.hg;omega
 have C:gK≠gU:=by have:=j.hg;omega
 replace b:=b.keep (Nt.below j.below) (BF j.below _ b.lt);have h:MUs I gU []:=⟨_,_,j.row,⟨rfl,λx m=>by cases m⟩,⟨λx m=>(by cases m),List.nodup_nil⟩⟩;have O:=h.lt;refine Hn 1 (#[ν, .map (some gK), .map (some gU)]) 87 ?_;intro s l i p;replace f:=(f.go t).go j.below;have K:r<l:=by have:=f.lt;have:=i.hg;omega
 have L:gK<l:=by have:=b.lt;have:=i.hg;omega
 have J:gU<l:=by have:=h.lt;have:=i.hg;omega
 replace g:=g.go j.below;have z:w.heap.size<=l:=by have:=g.size;have:=i.hg;omega
 replace b:=b.keep (Nt.below i.below) (BF i.below _ b.lt);replace h:=h.keep (BF i.below _ h.lt);replace f:=f.go i.below;refine Fq 5 (λv=>Rw r v (B8 d) 44) (f) ?_;replace b:=b.keep (Nt.below (Ac _ _).drew) (BF (Ac _ _).drew _ b.lt);replace h:=h.keep (BF (Ac _ _).drew _ h.lt);replace f:=f.go (Ac _ _).drew;refine Dx [] 0 (og f19 2 0) (γ (B8 d)) (λv y _=>BW 44 _ _ _ _ _ _ rfl (by kernel_rfl) y υ44 rfl (D5 hd)) f<|Dz [1] ?_;refine Yc 1 (R:=RVl s.drew (γ (B8 (dref [128])))) (Qb s.drew) (λu w' G=>f.go G.2) ?_ yn;rintro _ P⟨rfl,k⟩;replace b:=b.keep (Nt.below k) (BF k _ b.lt);replace h:=h.keep (BF k _ h.lt);replace f:=f.go k;refine Dx [] 2 (og f19 2 2) (β false) (λv y _=>E1 (X6 (xs:=d) (ys:=dref [128]) rfl (by kernel_rfl) (by kernel_rfl) hd (dref_len _)) (Ao β (show(!(d==dref [128]))=false from by simp[H]))) f<|Do<|Hr 11 (π l) ?_;replace g:=((g.go i.below).go (Ac _ _).drew).go k;replace p:=(p.go (Ac _ _).drew).go k;exact⟨_,rfl,⟨l,gK,gU,rfl,⟨⟨_,p,rfl⟩,b,h,C,trivial,E⟩,z,D,B⟩,g⟩
theorem new_any{w:Γ}{d:τ}{a:Ω}{n c:Nat}{ns:List τ}(hd:d.length=32)(f:isB d)(g:NsA w a n c ns)(h:n<=9223372036854775807):Calls prog 19 #[γ (B8 d),σ a n c] w λe w'=>∃v',e=ω v'/\RNw w (topP d) (knP ns []) [] v' w':=by
 unfold topP;by_cases b:d=dref [128]
 ·rw[Ai b];exact XaV hd f g h b
 ·rw[Ae b];exact ZA hd f g h b
theorem r_size{y:RV}(h:y.d.length=32):y.cells.toArray.size=34:=by rw[Ba,RV.len h]
theorem r_ones(y:RV):y.cells.toArray.all (·.oneCell')=true:=Am (RV.one y)
theorem sc_other(b k:Nat)(a:k≠b):∀(vs:List Δ)(o:Nat)(w:Γ),(w.setCells b o vs).heap[k]?=w.heap[k]?
 |[],_,_=>rfl
 |v::r,o,w=>(sc_other b k a r (o+1) _).trans (AA _ _ _ _ a)
theorem sc_same(b:Nat):∀(vs:List Δ)(o:Nat)(w:Γ),(w.setCells b o vs).os=w.os/\(w.setCells b o vs).tape=w.tape/\(w.setCells b o vs).output=w.output/\(w.setCells b o vs).heap.size=w.heap.size
 |[],_,_=>⟨rfl,rfl,rfl,rfl⟩
 |v::r,o,w=>by
  obtain⟨d,a,e,c⟩:=sc_same b r (o+1) (w.setCell ⟨b,o,none⟩ v);exact⟨d,a,e,c.trans (by simp)⟩
theorem sc_row(b:Nat)(t:TypeId):∀(vs:List Δ)(o:Nat)(w:Γ)(cur:Ξ),w.heap[b]?=some (.cells cur t (0,0))->∃a:Ξ,(w.setCells b o vs).heap[b]?=some (.cells a t (0,0))/\a.size=cur.size
 |[],_,_,cur,h=>⟨cur,h,rfl⟩
 |v::r,o,w,cur,h=>by
  obtain⟨c',d,c⟩:=sc_row b t r (o+1) (w.setCell ⟨b,o,none⟩ v) _ (AU w b o cur t v h);exact⟨c',d,by rw[c];simp⟩
structure St(w w':Γ)(g:Nat):Prop where
 other:∀k,k≠g->w'.heap[k]?=w.heap[k]?
 os:w'.os=w.os
 tape:w'.tape=w.tape
 output:w'.output=w.output
 size:w'.heap.size=w.heap.size
theorem St.of(w:Γ)(g o:Nat)(vs:List Δ):St w (w.setCells g o vs) g:=by
 obtain⟨a,d,c,e⟩:=sc_same g vs o w;exact⟨λk b=>sc_other g k b vs o w,a,d,c,e⟩
def kz:Ξ:=(Array.range 544).map (λx=>rz.cells.toArray[x%34]!)
def updR(ys:Nat->RV)(i:Nat)(y:RV):Nat->RV:=λj=>if j=i then y else ys j
structure Kr(gK:Nat)(w:Γ)(ys:Nat->RV):Prop where
 row:∃cur:Ξ,w.heap[gK]?=some (.cells cur 118 (0,0))/\cur.size=544
 rng:∀i,i<16->w.rangeAt gK (0+i*34) (ys i).cells
 ln:∀i,(ys i).d.length=32
theorem Kr.same{gK:Nat}{w w':Γ}{ys:Nat->RV}(h:Kr gK w ys)(e:w'.heap[gK]?=w.heap[gK]?):Kr gK w' ys:=by
 obtain⟨cur,a,d⟩:=h.row;exact⟨⟨cur,e.trans a,d⟩,λi b m v c=>(Av (show w'.heap[gK]?=w.heap[gK]? from e)).trans (h.rng i b m v c),h.ln⟩
theorem Kr.go{gK:Nat}{w w':Γ}{ys:Nat->RV}(h:Kr gK w ys)(b:Λ w w'):Kr gK w' ys:=by
 obtain⟨cur,a,c⟩:=h.row;exact h.same (b.block gK (lt_of_get a))
theorem Kr.lt{gK:Nat}{w:Γ}{ys:Nat->RV}(h:Kr gK w ys):gK<w.heap.size:=by
 obtain⟨cur,a,b⟩:=h.row;exact lt_of_get a
theorem Kr.there{gK:Nat}{w:Γ}{ys:Nat->RV}(h:Kr gK w ys){j:Nat}(c:j<16):w.there gK (0+j*34) 34:=by
 obtain⟨cur,a,d⟩:=h.row;intro m b;refine⟨?_,AN _ _ _ _ _ a⟩;rw[Aj _ _ _ _ _ _ a,Bw (by omega)];rfl
theorem Kr.put{gK:Nat}{w:Γ}{ys:Nat->RV}(h:Kr gK w ys){j:Nat}(c:j<16){y:RV}(a:y.d.length=32):Kr gK (w.setCells gK (0+j*34) y.cells) (updR ys j y):=by
 have k:=h.there c;obtain⟨cur,g,d⟩:=h.row;obtain⟨b,l,f⟩:=sc_row gK 118 y.cells (0+j*34) w cur g;refine⟨⟨b,l,f.trans d⟩,λi m=>?_,λi=>?_⟩
 ·unfold updR;by_cases e:i=j
  ·rw[Ai e,e];exact World.rangeAt_setCells_same w gK (0+j*34) y.cells (by rw[RV.len a];exact k)
  ·rw[Ae e];refine World.rangeAt_setCells_apart (h.rng i m) gK (0+j*34) y.cells (.inr ?_);rw[RV.len (h.ln i),RV.len a];omega
 ·unfold updR;split
  ·exact a
  ·exact h.ln i
theorem Kr.new{w w':Γ}{gK:Nat}(h:New w w' gK kz 118):Kr gK w' (λ_=>rz):=by
 refine⟨⟨kz,h.row,by simp[kz]⟩,λi c m v a=>?_,λ_=>rfl⟩;have b:m<34:=by have:=(Ar.1 a).1;rw[RV.len (x:=rz) rfl]at this;exact this
 rw[Aj _ _ _ _ _ _ h.row];unfold kz;rw[Array.getElem?_map,Bw (by rw[Array.size_range];omega)];rw[Array.getElem_range,B7];rw[show(0+i*34+m)%34=m from by omega];rw[<-a,EV _ _ (by rw[Ba,RV.len (x:=rz) rfl];exact b)];simp
theorem ol_storeM{ρ:Φ}{w:Γ}{o:Oper}(x z:Operand){gK j:Nat}{ys:Nat->RV}{y:RV}(h:Kr gK w ys)(b:j<16)(a:y.d.length=32)(c:o.op= .store 118 x z)(d:ρ x=ψ gK (0+j*34))(e:ρ z=γ y.cells.toArray):
 (execOp ρ o).run prog w= .ok .skip (w.setCells gK (0+j*34) y.cells):=by
 have:=run_storeAt_mid (P:=prog) w gK (0+j*34) 118 y.cells.toArray (by rw[r_size a];exact h.there b) (by rw[EW,r_size a]) (r_ones y);unfold execOp;simp only[c,d,e,AO,this,A4,AV]
def encN(n:PN):τ:=(NEP n).1
def rfT:Pt->PR
 |no=>r0
 |st d=>⟨2,d,[]⟩
 |leaf p v=>referP (encN ⟨1,p,v,r0,[]⟩)
 |ext p c=>referP (encN ⟨2,p,[],rfT c,[]⟩)
 |br k v=>referP (encN ⟨3,[],v,r0,(List.range 16).map λi=>rfT (k i)⟩)
def ndT:Pt->PN
 |no=>n0
 |st _=>n0
 |leaf p v=>⟨1,p,v,r0,[]⟩
 |ext p c=>⟨2,p,[],rfT c,[]⟩
 |br k v=>⟨3,[],v,r0,(List.range 16).map λi=>rfT (k i)⟩
def rtP:Pt->τ
 |no=>dref [128]
 |st d=>d
 |t=>dref (encN (ndT t))
theorem Xb8{t:Pt}(h:t.isNd=true):rfT t=referP (encN (ndT t)):=by
 cases t with
 |no=>cases h
 |st d=>cases h
 |leaf p v=>unfold rfT ndT;rfl
 |ext p c=>rw[rfT,ndT]
 |br k v=>rw[rfT,ndT]
theorem X7{n:PN}(h:okN n):(encN n).length<=65540:=by
 unfold encN NEP;split
 ·rename_i a;exact(Ek h a).2.2
 ·simp
theorem JF(K:Θ)(w:Γ):AgK K w none 0 0 []:=⟨⟨.inl ⟨rfl,rfl⟩,λ_=>⟨rfl,rfl⟩,rfl,λx a=>by cases a⟩,by omega,λg off e=>by cases e⟩
theorem ZB:isB z32:=λx a=>by rw[(Ce.1 a).2];omega
theorem X8(K:Θ)(w:Γ):RefAt K w rz r0:=⟨rfl,rfl,ZB,rfl,JF K w⟩
theorem O4{v:Γ}{B d:Nat}{a:Ω}{n c:Nat}{bs:τ}(h:Sk An v a n c bs)(i:∀x,a=some x->0<n->x.block<B)(k:B<=d)(j:n<=140737488351232):AgK (λb=>b≠d) v a n c bs:=
 ⟨h.ag,j,λg off e f=>by have:=i _ e f;simp only at this;omega⟩
def RRf(w:Γ)(r:PR):Δ->Γ->Prop:=λu w'=>(∃y:RV,u=γ y.cells.toArray/\RefAt (λb=>w.heap.size<=b) w' y r)/\Bl w w'
def REn(w:Γ)(b:τ):Δ->Γ->Prop:=λu w'=>(∃a n c,u=σ a n c/\Sk An w' a n c b/\n<=70000)/\Bl w w'
def RNd(w:Γ)(n:PN):Δ->Γ->Prop:=λu w'=>(∃y:NV,u=γ y.cells.toArray/\NodeAt An w' y n)/\Bl w w'
def RfS(t:Pt):Prop:=∀{w:Γ}{v:Δ},ThA w t v->κ 115 #[v] w λu w'=>RRf w (rfT t) u w'
def EnS(t:Pt):Prop:=∀{w:Γ}{v:Δ},ThA w t v->κ 55 #[v] w λu w'=>REn w (encN (ndT t)) u w'
def NdS(t:Pt):Prop:=∀{w:Γ}{v:Δ},ThA w t v->κ 82 #[v] w λu w'=>RNd w (ndT t) u w'
theorem ZC{K:Θ}{w:Γ}{y:NV}{n:PN}(h:NodeAt K w y n):κ 62 #[γ y.cells.toArray] w λv w'=>(∃a m c d,v=θ #[σ a m c,ι d]/\Sk An w' a m c (encN n)/\m<=70000)/\Bl w w':=by
 have f:=X7 h.okN;refine(Kv K y n w h).mono ?_;rintro e w'⟨⟨a,m,c,rfl,b,_⟩,g⟩;exact⟨_,rfl,⟨a,m,c,_,rfl,Ag.sk b,by have:=b.l;unfold encN at f;omega⟩,g⟩
theorem X9{w:Γ}{a:Ω}{n c:Nat}{b:τ}(h:Sk An w a n c b)(j:n<=70000):κ 150 #[σ a n c] w λv w'=>RRf w (referP b) v w':=by
 refine(JW a n c b w h.ag (by omega)).mono ?_;rintro e w'⟨⟨y,rfl,i⟩,f⟩;exact⟨_,rfl,⟨y,rfl,i.go (λg d _=>⟨rfl,d.1⟩)⟩,f⟩
theorem XaW{w0 w:Γ}{t:Pt}{u:Δ}(h:ThA w0 t u)(a:t.isNd=true){ρ:Φ}{o:Oper}(x:Operand)(b:o.op= .typeAssert x 85 88 true)(c:ρ x=u):(execOp ρ o).run prog w= .ok (.value (θ #[γ (B8 z32),β false])) w:=by
 unfold execOp;rw[b];simp only[c];cases t with
 |no=>cases a
 |st d=>cases a
 |leaf p x=>obtain⟨_,_,_,_,_,_,rfl,_⟩:=h;kernel_rfl
 |ext p t=>obtain⟨_,_,_,_,rfl,_⟩:=h;kernel_rfl
 |br k x=>obtain⟨_,_,_,_,rfl,_⟩:=h;kernel_rfl
theorem XaX{w:Γ}{t:Pt}{u:Δ}(h:ThA w t u)(n:NdS t):Calls prog 55 #[u] w λe w'=>∃v',e=ω v'/\REn w (encN (ndT t)) v' w':=by
 have b:Bl w w:=Bl.refl w;refine Ck func55 12<|Hc 8 (R:=RNd w (ndT t)) (n h) ?_;rintro _ p⟨⟨s,rfl,j⟩,i⟩;refine Hc 0 (R:=λv w'=>(∃a m c l,v=θ #[σ a m c,ι l]/\Sk An w' a m c (encN (ndT t))/\m<=70000)/\Bl p w') (ZC j) ?_;rintro _ x⟨⟨q,k,o,r,rfl,g,f⟩,d⟩;refine Hr 14 (σ q k o) ?_;replace b:=(b.go i).go d;exact⟨_,rfl,⟨_,_,_,rfl,g,f⟩,b⟩
theorem XaY{w:Γ}:Calls prog 115 #[ν] w λe w'=>∃v',e=ω v'/\RRf w (rfT no) v' w':=by
 have c:Bl w w:=Bl.refl w;refine Ck func115 16<|Hn 2 ((RV.cells rz).toArray) 118 ?_;intro w1 b f a;have g:w.heap.size<=b:=by have:=c.size;have:=f.hg;omega
 refine Hy 23 (og f115 4 1) b ((RV.cells rz).toArray) (λ_=>AM 118 _ _ _ _ _ 118 rfl (by kernel_rfl) (by kernel_rfl) a (CD (show rz.d.length=32 from rfl)) (CL (show rz.d.length=32 from rfl)) (Am (RV.one _))) ?_;intro h d;replace a:Rw b h ((RV.cells rz).toArray) 118:=d.row a;refine JI 5 (γ ((RV.cells rz).toArray)) (λ_=>Hj rfl _ b _ (by kernel_rfl) a υ118 rfl (CD (show rz.d.length=32 from rfl))) ?_;replace c:=(c.go f.below).tou d.touch g;exact⟨_,rfl,⟨rz,rfl,X8 _ _⟩,c⟩
theorem XaZ{w:Γ}{d:τ}(hd:d.length=32)(o:isB d):Calls prog 115 #[.iface 88 (γ (B8 d))] w λe w'=>∃v',e=ω v'/\RRf w (rfT (st d)) v' w':=by
 have a:Bl w w:=Bl.refl w;refine Ck func115 16<|Hn 2 ((RV.cells rz).toArray) 118 ?_;intro w1 f j b;have l:w.heap.size<=f:=by have:=a.size;have:=j.hg;omega
 refine Hn 25 (B8 z32) 88 ?_;intro s g c i;refine Hy 0 (og f115 6 1) g (B8 d) (λ_=>AM 88 _ _ _ _ _ 88 rfl (by kernel_rfl) (by kernel_rfl) i (ED hd) ((B8_size _).trans ((show z32.length=32 from rfl).trans (hd.symm.trans (B8_size _).symm))) (B8_one _)) ?_;intro p m;clear i;replace c:=c.put m;have q:f<g:=by have:=b.lt;have:=c.hg;omega
 replace a:=a.go j.below;have r:w.heap.size<=g:=by have:=a.size;have:=c.hg;omega
 replace a:=a.go c.below;replace b:=b.go c.below;have k:Rw g p (B8 d) 88:=c.row;refine Hx 4 (og f115 7 0) (γ (B8 d)) (λ_=>BW 88 _ _ _ _ _ _ rfl (by kernel_rfl) k υ88 rfl (ED hd))<|Hx 0 (og f115 7 1) (γ (RV.cells ⟨2,d,none,0,0⟩).toArray) (λ_=>ol_build 118 _ rfl [(0,ι 2),(1,γ (B8 d))] (by kernel_rfl) _ (JV d hd))<|Hy 0 (og f115 7 2) f ((RV.cells ⟨2,d,none,0,0⟩).toArray) (λ_=>AM 118 _ _ _ _ _ 118 rfl (by kernel_rfl) (by kernel_rfl) b (CD hd) (CL hd) (Am (RV.one _))) ?_;intro n h;replace b:Rw f n ((RV.cells ⟨2,d,none,0,0⟩).toArray) 118:=h.row b;refine JI 5 (γ ((RV.cells ⟨2,d,none,0,0⟩).toArray)) (λ_=>Hj rfl _ f _ (by kernel_rfl) b υ118 rfl (CD hd)) ?_;replace a:=a.tou h.touch l;exact⟨_,rfl,⟨⟨2,d,none,0,0⟩,rfl,⟨rfl,rfl,o,hd,JF _ _⟩⟩,a⟩
theorem Rt{w:Γ}{t:Pt}{u:Δ}(h:ThA w t u)(i:t.isNd=true)(x:EnS t):Calls prog 115 #[u] w λe w'=>∃v',e=ω v'/\RRf w (rfT t) v' w':=by
 have b:Bl w w:=Bl.refl w;refine Ck func115 16 ?_;have s:t.isNo=false:=by cases t<;>first|rfl|cases i
 rw[Xb8 i];refine Hn 2 ((RV.cells rz).toArray) 118 ?_;intro w1 c k a;have q:w.heap.size<=c:=by have:=b.size;have:=k.hg;omega
 replace h:=h.go k.below;refine Hx 11 (og f115 2 0) (β false) (λ_=>E1 (Xe h 5 _ rfl (by kernel_rfl) rfl) (Ao β s))<|Hx 5 (og f115 5 0) (θ #[γ (B8 z32),β false]) (λ_=>XaW h i _ rfl (by kernel_rfl))<|Hc 11 (R:=REn w1 (encN (ndT t))) (x h) ?_;rintro _ n⟨⟨F,C,E,rfl,v,r⟩,m⟩;replace a:=a.go m;have o:=a.lt;refine Hc 0 (R:=RRf n (referP (encN (ndT t)))) (X9 v r) ?_;rintro _ A⟨⟨f,rfl,d⟩,l⟩;replace b:=(b.go k.below).go m;have B:=b.size;have p:c<(n).heap.size:=o;replace a:=a.go l;refine Hy 0 (og f115 8 3) c ((RV.cells f).toArray) (λ_=>AM 118 _ _ _ _ _ 118 rfl (by kernel_rfl) (by kernel_rfl) a (CD d.len) (CL d.len) (Am (RV.one _))) ?_;intro y j;replace a:Rw c y ((RV.cells f).toArray) 118:=j.row a;refine JI 3 (γ ((RV.cells f).toArray)) (λ_=>Hj rfl _ c _ (by kernel_rfl) a υ118 rfl (CD d.len)) ?_;replace b:=(b.go l).tou j.touch q;exact⟨_,rfl,⟨f,rfl,d.go (λg D z=>⟨j.other (by have:=p;omega),by omega⟩)⟩,b⟩
theorem XA{w:Γ}{a b:Ω}{n c m d:Nat}{p x:τ}(i:Sk An w a n c p)(k:Sk An w b m d x)(O:m<=256)(q:n<=140737488351232):Calls prog 82 #[.iface 157 (γ #[σ a n c,σ b m d])] w λe w'=>∃v',e=ω v'/\RNd w (ndT (leaf p x)) v' w':=by
 have J:∀x,a=some x->0<n->x.block<w.heap.size:=λx k q=>i.old k q;have G:=i;have H:∀x,b=some x->0<m->x.block<w.heap.size:=λx E q=>k.old E q;have I:=k;have f:Bl w w:=Bl.refl w;refine Ck func82 48<|Hn 2 ((NV.cells nz).toArray) 121 ?_;intro w1 l t o;have v:w.heap.size<=l:=by have:=f.size;have:=t.hg;omega
 refine Hn 19 (#[ε,ε]) 157 ?_;intro P u g A;refine Hy 0 (og f82 3 1) u (#[σ a n c,σ b m d]) (λ_=>AM 157 _ _ _ _ _ 157 rfl (by kernel_rfl) (by kernel_rfl) A (by kernel_rfl) (by kernel_rfl) (by kernel_rfl)) ?_;intro s C;clear A;replace g:=g.put C;have M:l<u:=by have:=o.lt;have:=g.hg;omega
 replace f:=f.go t.below;have N:w.heap.size<=u:=by have:=f.size;have:=g.hg;omega
 replace f:=f.go g.below;replace i:=i.go t.below;replace i:=i.go g.below;replace k:=k.go t.below;replace k:=k.go g.below;replace o:=o.go g.below;have z:Rw u s (#[σ a n c,σ b m d]) 157:=g.row;refine Hl 5 z 0 32 (σ a n c)<|Hl 1 z 1 32 (σ b m d)<|Hx 0 (og f82 4 4) (γ (NV.cells ⟨1,a,n,c,b,m,d,rz,none,0,0⟩).toArray) (λ_=>ol_build 121 _ rfl [(0,ι 1),(1,σ a n c),(2,σ b m d)] (by kernel_rfl) _ (GP _ _ _ _ _ _))<|Hy 0 (og f82 4 5) l ((NV.cells ⟨1,a,n,c,b,m,d,rz,none,0,0⟩).toArray) (λ_=>AM 121 _ _ _ _ _ 121 rfl (by kernel_rfl) (by kernel_rfl) o (Cm (show rz.d.length=32 from rfl)) (Cg (show rz.d.length=32 from rfl)) (Am (NV.one _))) ?_;intro s y;have F:=G.go f;have D:=I.go f;replace o:Rw l s ((NV.cells ⟨1,a,n,c,b,m,d,rz,none,0,0⟩).toArray) 121:=y.row o;refine JI 5 (γ ((NV.cells ⟨1,a,n,c,b,m,d,rz,none,0,0⟩).toArray)) (λ_=>Hj rfl _ l _ (by kernel_rfl) o υ121 rfl (Cm (show rz.d.length=32 from rfl))) ?_;have K:∀{B:Γ},Put B s l ((NV.cells ⟨1,a,n,c,b,m,d,rz,none,0,0⟩).toArray)->Keep (λb=>b≠l) An B s:=λi b L _=>⟨i.other L,trivial⟩;replace f:=f.tou y.touch v;exact⟨_,rfl,⟨⟨1,a,n,c,b,m,d,rz,none,0,0⟩,rfl,NodeAt.go (K y) (show NodeAt (λb=>b≠l) _ ⟨1,a,n,c,b,m,d,rz,none,0,0⟩ (ndT (leaf p x))from⟨rfl,O4 F J v q,O4 D H v (show m<=_ by omega),X8 _ _,⟨rfl,Ab _,A8 _,by show 0<=_;omega,λ_=>⟨rfl,rfl⟩⟩,λj r h=>by simp[ndT]at h⟩)⟩,f⟩
theorem ZD{w:Γ}{a:Ω}{n c:Nat}{u:Δ}{p:τ}{t:Pt}(f:Sk An w a n c p)(D:n<=140737488351232)(m:ThA w t u)(Q:RfS t):Calls prog 82 #[.iface 167 (γ #[σ a n c,u])] w λe w'=>∃v',e=ω v'/\RNd w (ndT (ext p t)) v' w':=by
 have M:∀x,a=some x->0<n->x.block<w.heap.size:=λx O D=>f.old O D;have L:=f;have g:Bl w w:=Bl.refl w;refine Ck func82 48<|Hn 2 ((NV.cells nz).toArray) 121 ?_;intro w1 o A d;have E:w.heap.size<=o:=by have:=g.size;have:=A.hg;omega
 refine Hn 27 (#[ε,ν]) 167 ?_;intro W y l F;replace m:=m.go A.below;refine Hy 0 (og f82 6 1) y (#[σ a n c,u]) (λ_=>AM 167 _ _ _ _ _ 167 rfl (by kernel_rfl) (by kernel_rfl) F (by kernel_rfl) (by kernel_rfl) (UB rfl m.one)) ?_;intro q J;clear F;replace l:=l.put J;have S:o<y:=by have:=d.lt;have:=l.hg;omega
 replace g:=g.go A.below;have U:w.heap.size<=y:=by have:=g.size;have:=l.hg;omega
 replace g:=g.go l.below;replace f:=f.go A.below;replace f:=f.go l.below;replace m:=m.go l.below;replace d:=d.go l.below;have i:Rw y q (#[σ a n c,u]) 167:=l.row;refine Fq 3 (λv=>Rw y v (#[σ a n c,u]) 167) (i) ?_;replace i:=i.go (Ac _ _).drew;refine Dl [0] 1 (λv B=>B) 0 32 (σ a n c) i<|Dl [2] 3 (λv B=>B) 1 85 (u) i<|Dz [4] ?_;replace d:=d.go (Ac _ _).drew;have I:=d.lt;replace m:=m.go (Ac _ _).drew;refine Yc 4 (R:=RRf q.drew (rfT t)) (Q m) (λu w' P=>i.go P.2) ?_ yn;rintro _ V⟨⟨k,rfl,s⟩,z⟩;have T:=I;replace i:=i.go z;refine Dx [] 5 (og f82 7 5) (γ (NV.cells ⟨2,a,n,c,none,0,0,k,none,0,0⟩).toArray) (λv B=>(λ_=>ol_build 121 _ rfl [(0,ι 2),(1,σ a n c),(3,γ (RV.cells k).toArray)] (by kernel_rfl) _ (Gm _ _ _ k s.len))) i<|Dz [6] ?_;replace f:=(f.go (Ac _ _).drew).go z;replace d:=d.go z;refine Yy 6 (og f82 7 6) o ((NV.cells ⟨2,a,n,c,none,0,0,k,none,0,0⟩).toArray) (λ_=>AM 121 _ _ _ _ _ 121 rfl (by kernel_rfl) (by kernel_rfl) d (Cm s.len) (Cg s.len) (Am (NV.one _))) (λw' f=>i.past f.touch (by omega)) ?_ yn;intro q C;replace g:=(g.go (Ac _ _).drew).go z;have K:=L.go g;replace d:Rw o q ((NV.cells ⟨2,a,n,c,none,0,0,k,none,0,0⟩).toArray) 121:=C.row d;refine Do<|JI 4 (γ ((NV.cells ⟨2,a,n,c,none,0,0,k,none,0,0⟩).toArray)) (λ_=>Hj rfl _ o _ (by kernel_rfl) d υ121 rfl (Cm s.len)) ?_;have N:∀{G:Γ},Put G q o ((NV.cells ⟨2,a,n,c,none,0,0,k,none,0,0⟩).toArray)->Keep (λb=>b≠o) An G q:=λf b H _=>⟨f.other H,trivial⟩;replace g:=g.tou C.touch E;exact⟨_,rfl,⟨⟨2,a,n,c,none,0,0,k,none,0,0⟩,rfl,NodeAt.go (N C) (show NodeAt (λb=>b≠o) _ ⟨2,a,n,c,none,0,0,k,none,0,0⟩ (ndT (ext p t))from⟨rfl,O4 K M E D,JF _ _,s.go (λb H _=>⟨rfl,by omega⟩),⟨rfl,Ab _,A8 _,by show 0<=_;omega,λ_=>⟨rfl,rfl⟩⟩,λj r h=>by simp[ndT]at h⟩)⟩,g⟩
theorem Xba{w:Γ}{vs:Nat->Δ}{k:Nat->Pt}{a:Ω}{n c:Nat}{x:τ}(t:KA w k vs)(u:Sk An w a n c x)(T:n<=256)(ih:∀i,i<16->RfS (k i)):Calls prog 82 #[.iface 160 (γ (brc vs (σ a n c)))] w λe w'=>∃v',e=ω v'/\RNd w (ndT (br k x)) v' w':=by
 have ae:∀x,a=some x->0<n->x.block<w.heap.size:=λx V T=>u.old V T;have af:=u;have Z:=t;have f:Bl w w:=Bl.refl w;refine Ck func82 48<|Hn 2 ((NV.cells nz).toArray) 121 ?_;intro w1 g F y;have P:w.heap.size<=g:=by have:=f.size;have:=F.hg;omega
 refine Hn 35 (brc (λ_=>ν) (ε)) 160 ?_;intro w5 s q Q;replace t:=t.go F.below;refine Hy 0 (og f82 9 1) s (brc vs (σ a n c)) (λ_=>AM 160 _ _ _ _ _ 160 rfl (by kernel_rfl) (by kernel_rfl) Q (by kernel_rfl) (by kernel_rfl) (CV t)) ?_;intro l U;clear Q;replace q:=q.put U;have ak:g<s:=by have:=y.lt;have:=q.hg;omega
 replace f:=f.go F.below;have al:w.heap.size<=s:=by have:=f.size;have:=q.hg;omega
 replace f:=f.go q.below;replace t:=t.go q.below;replace u:=u.go F.below;replace u:=u.go q.below;replace y:=y.go q.below;have B:Rw s l (brc vs (σ a n c)) 160:=q.row;have ao:=y.lt;have am:=B.lt;refine M6 4 kz 118 16 ?_;intro ar d z _;have ah:w.heap.size<=d:=by have:=f.size;have:=z.hg;omega
 have av:=z.hg;have p:=Kr.new z;replace B:=B.go z.below;refine Hx 7 (og f82 11 1) (γ (bra vs)) (λ_=>ol_arr B _ rfl (by kernel_rfl)) ?_;have L:g≠d/\s≠d/\g≠s:=by omega
 replace f:=f.go z.below;replace y:=y.go z.below;refine Ho (X:=Nat×(Nat->RV)) 4 (λx=>[(33,ι ((x.1:Nat):Int)),(32,γ (bra vs)),(6,σ (ζ d 0) 16 16),(5,π s),(2,π g)]) (λx v=>Bl w v/\Rw g v (NV.cells nz).toArray 121/\Rw s v (brc vs (σ a n c)) 160/\Kr d v x.2/\x.1<=16/\∀i,i<x.1->RefAt (λb=>b≠g/\b≠d) v (x.2 i) (rfT (k i))) (λx=>16-x.1) (0,λ_=>rz) ⟨f,y,B,p,A8 _,λi N=>by omega⟩ ?_;replace t:=t.go z.below;replace u:=u.go z.below;clear f p t u y B;rintro⟨j,ys⟩ v⟨f,m,D,p,hj,I⟩ I1 ac;simp only at*;by_cases C:j<16
 ·skip
  have ad:=(Z.go f) j C;have aq:=m.lt;have ap:=p.lt;refine Ht 2 ((j:Int)<(16:Int))<|Hx 11 (og f82 13 1) (vs j) (λ_=>ol_ixa _ _ vs j C rfl (by kernel_rfl) (by kernel_rfl))<|Hc 8 (R:=RRf v (rfT (k j))) (ih j C ad) ?_;rintro _ G⟨⟨H,rfl,K⟩,E⟩;replace I:∀i,i<j->RefAt (λb=>b≠g/\b≠d) G (ys i) (rfT (k i)):=λi N=>(I i N).go (Keep.below E);refine Hx 0 (og f82 14 4) (ψ d (0+j*34)) (λ_=>AW 119 _ _ d 0 j 16 16 34 118 rfl (by kernel_rfl) (by kernel_rfl) C υ119 (by kernel_rfl)) ?_;replace p:=p.go E;refine Hs 0 (og f82 14 5) (λ_=>ol_storeM _ _ p C K.len rfl (by kernel_rfl) (by kernel_rfl)) ?_;have o:=St.of G d (0+j*34) (RV.cells H);have O:=p.put C K.len;obtain⟨l,W⟩:∃l,(G).setCells d (0+j*34) (RV.cells H)=l:=⟨_,rfl⟩;rw[W]at o O⊢;have ai:Touch d G l:=⟨o.os,o.tape,o.output,by rw[o.size];exact Ab _,λk9 _ h9=>o.other k9 h9⟩;replace m:=m.go E;replace m:Rw g l (NV.cells nz).toArray 121:=(o.other _ L.1).trans m;replace D:=D.go E;replace D:Rw s l (brc vs (σ a n c)) 160:=(o.other _ L.2.1).trans D;have aa:∀i,i<j+1->RefAt (λb=>b≠g/\b≠d) l (updR ys j H i) (rfT (k i)):=λi N=>by
   unfold updR;by_cases e:i=j
   ·rw[Ai e,e];exact K.go (λb A _=>⟨o.other b (by omega),by omega,by omega⟩)
   ·rw[Ae e];exact(I i (by omega)).go (λb A _=>⟨o.other b A.2,A⟩)
  refine Hw 4 (ι (IntKind.i64.wrap ((j:Int)+(1:Int)))) (ι ((j+1:Nat):Int)) (Ao (Value.int .i64) ((Cy (by omega) (by omega)).trans (by omega))) ?_;replace f:=(f.go E).tou ai ah;exact ac 2 (j+1,(updR ys j H)) ⟨f,m,D,O,by simp only;omega,aa⟩ (by simp only;omega) (λ_=>by kernel_rfl)
 obtain rfl:j=16:=by omega
 refine Hf 2 (((16:Nat):Int)<(16:Int))<|Hl 13 D 16 32 (σ a n c)<|Hy 1 (og f82 16 4) g ((NV.cells ⟨3,none,0,0,a,n,c,rz,(ζ d 0),16,16⟩).toArray) (λ_=>AM 121 _ _ _ _ _ 121 rfl (by kernel_rfl) (by kernel_rfl) m (Cm (show rz.d.length=32 from rfl)) (Cg (show rz.d.length=32 from rfl)) (Am (NV.one _))) ?_;intro l M;have ab:=af.go f;replace m:Rw g l ((NV.cells ⟨3,none,0,0,a,n,c,rz,(ζ d 0),16,16⟩).toArray) 121:=M.row m;refine JI 5 (γ ((NV.cells ⟨3,none,0,0,a,n,c,rz,(ζ d 0),16,16⟩).toArray)) (λ_=>Hj rfl _ g _ (by kernel_rfl) m υ121 rfl (Cm (show rz.d.length=32 from rfl))) ?_;have aj:∀{S:Γ},Put S l g ((NV.cells ⟨3,none,0,0,a,n,c,rz,(ζ d 0),16,16⟩).toArray)->Keep (λb=>b≠g) An S l:=λhp b A _=>⟨hp.other A,trivial⟩;replace f:=f.tou M.touch P;refine⟨_,rfl,⟨⟨3,none,0,0,a,n,c,rz,(ζ d 0),16,16⟩,rfl,NodeAt.go (aj M) (show NodeAt (λb=>b≠g) _ ⟨3,none,0,0,a,n,c,rz,(ζ d 0),16,16⟩ (ndT (br k x))from⟨rfl,JF _ _,O4 ab ae P (show n<=_ by omega),X8 _ _,⟨rfl,Ab _,by show 16<=maxLen;unfold maxLen;omega,by show 16<=_;omega,λe=>by cases e⟩,λj r h=>?_⟩)⟩,f⟩;have J:j<16:=by have:=(Ar.1 h).1;simpa[ndT]using this
 have Y:r=rfT (k j):=by have:((List.range 16).map λi=>rfT (k i))[j]?=some r:=h;rw[AZ,List.getElem?_range J]at this;exact(BJ this).symm
 rw[Y];exact⟨d,0,ys j,rfl,Ne.symm L.1,p.rng j J,(I j J).go (λb A _=>⟨rfl,A.1⟩)⟩
end
end Pa
end Go.Proofs.YtkdlocloepbmcaaGreat
