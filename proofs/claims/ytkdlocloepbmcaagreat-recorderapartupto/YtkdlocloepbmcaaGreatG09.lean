/- What Unpack answers. -/
import Derived.Test.YtkdlocloepbmcaaGreatG08
import Derived.Lib.SlBytesConst
set_option linter.unusedVariables false
set_option linter.unusedSimpArgs false
set_option maxRecDepth 100000
set_option maxHeartbeats 4000000
open Go.Proofs.Tryz Go.RowKit
namespace Go.Proofs.YtkdlocloepbmcaaGreat
namespace Ni
theorem unpack_any(a:Ω)(n c:Nat)(b:τ)(w:Γ)(h:Ag w a n c b)(P:2*n<=140737488355328):
 Calls prog 163 #[σ a n c] w λe w'=>(∃a' m,e=ω (θ #[σ a' m m,β (unpP b).2.1,ι ((unpP b).2.2:Nat)])/\Cut w' w.heap.size a' m (unpP b).1)/\Λ w w':=by
 have A:=h.l;by_cases N:n=0
 ·subst N;have e:b=[]:=Aw A;subst e;rw[RD];simp only;clear h A;go_enter func163,ntmps163;go_wp2_with fail;go_ret3;exact⟨⟨none,0,rfl,ag_nil _,λh=>by omega⟩,Ac _ _⟩
 have U:((n:Int)==0)=false:=by rw[Bo];omega
 have V:(0:Int)<n:=by omega
 obtain⟨g,off,rfl,S,I,D⟩:=ag_head h (by omega);unfold maxLen at I;have G:=D 0 (by omega);rw[Cz]at G;have O:=h.b _ (getD_mem (l:=b) (i:=0) (by omega));have o:=RF (b:=b) (by omega);have k:=OH (b:=b) (by omega);have E:=λv(j:Λ w v)=>of_any _ n c b v (h.at j) P;have C:(nib b).length=2*n:=by rw[nib_len,A]
 generalize b.getD 0 0=x at*;obtain⟨M,L⟩:=O;have Q:=ZM M L;have K:0<=x/16:=by omega
 have H:x/16<256:=by omega
 have z:=Aa E;have R:=Aa C;have T:2<=2*n:=by omega
 clear h A D E C;by_cases F:x/16>3
 ·rw[o (.inl F)];simp only;clear o k;go_enter func163,ntmps163;go_wp2_with fail
  go_region
  all_goals
   go_wp2_with fail;go_ret3;exact⟨⟨none,0,rfl,ag_nil _,λh=>by omega⟩,(Ac _ _).drew⟩
 have y:x/16=0∨x/16=1∨x/16=2∨x/16=3:=by omega
 clear F K H;rcases y with y|y|y|y
 ·
  have c1:bits BinOp.and IntKind.u8 0 1=0:=by decide+kernel
  have c2:bits BinOp.and IntKind.u8 0 2=0:=by decide+kernel
  by_cases s:x%16=0
  ·
   rw[k (by unfold badU;omega),Ai (by omega)];simp only;rw[Bi (by omega)];clear o k;go_enter func163,ntmps163;go_wp2_with fail
   go_region
   all_goals
    go_wp2_with fail;refine(z.out _ (Ac _ _).drew).mono ?_;rintro e w1⟨⟨u,rfl,d⟩,j⟩;have f:=behind_any u (2*n) (2*n) 2 w.heap.size (nib b) w1 (by omega) (Ab _) (by unfold maxLen;omega) (by omega) d.ag d.own;rw[show((2:Nat):Int)=2 from rfl]at f;have p:=Aa f;have r:=Aa (((Ac w.heap.size w).drew).trans j);clear f d j;go_wp2_with fail;refine p.out.mono ?_;rintro e B⟨⟨t,rfl,d⟩,rfl⟩;have q:=Aa d;clear d;go_wp2_with fail;go_ret3;exact⟨⟨t,_,rfl,q.out⟩,r.out⟩
  ·
   rw[o (.inr ⟨by omega,s⟩)];simp only;clear o k;have J:(x%16 !=0)=true:=(by rw[BU];exact s);clear s;go_enter func163,ntmps163;go_wp2_with fail
   go_region
   all_goals
    go_wp2_with fail;go_ret3;exact⟨⟨none,0,rfl,ag_nil _,λh=>by omega⟩,(Ac _ _).drew⟩
 ·
  have c1:bits BinOp.and IntKind.u8 1 1=1:=by decide+kernel
  have c2:bits BinOp.and IntKind.u8 1 2=0:=by decide+kernel
  rw[k (by unfold badU;omega),Ae (by omega)];simp only;rw[Bi (by omega)];clear o k;go_enter func163,ntmps163;go_wp2_with fail
  go_region
  all_goals
   go_wp2_with fail;refine(z.out _ (Ac _ _).drew).mono ?_;rintro e w1⟨⟨u,rfl,d⟩,j⟩;have f:=behind_any u (2*n) (2*n) 1 w.heap.size (nib b) w1 (by omega) (Ab _) (by unfold maxLen;omega) (by omega) d.ag d.own;rw[show((1:Nat):Int)=1 from rfl]at f;have p:=Aa f;have r:=Aa (((Ac w.heap.size w).drew).trans j);clear f d j;go_wp2_with fail;refine p.out.mono ?_;rintro e B⟨⟨t,rfl,d⟩,rfl⟩;have q:=Aa d;clear d;go_wp2_with fail;go_ret3;exact⟨⟨t,_,rfl,q.out⟩,r.out⟩
 ·
  have c1:bits BinOp.and IntKind.u8 2 1=0:=by decide+kernel
  have c2:bits BinOp.and IntKind.u8 2 2=2:=by decide+kernel
  by_cases s:x%16=0
  ·
   rw[k (by unfold badU;omega),Ai (by omega)];simp only;rw[AF (by omega)];clear o k;go_enter func163,ntmps163;go_wp2_with fail
   go_region
   all_goals
    go_wp2_with fail;refine(z.out _ (Ac _ _).drew).mono ?_;rintro e w1⟨⟨u,rfl,d⟩,j⟩;have f:=behind_any u (2*n) (2*n) 2 w.heap.size (nib b) w1 (by omega) (Ab _) (by unfold maxLen;omega) (by omega) d.ag d.own;rw[show((2:Nat):Int)=2 from rfl]at f;have p:=Aa f;have r:=Aa (((Ac w.heap.size w).drew).trans j);clear f d j;go_wp2_with fail;refine p.out.mono ?_;rintro e B⟨⟨t,rfl,d⟩,rfl⟩;have q:=Aa d;clear d;go_wp2_with fail;go_ret3;exact⟨⟨t,_,rfl,q.out⟩,r.out⟩
  ·
   rw[o (.inr ⟨by omega,s⟩)];simp only;clear o k;have J:(x%16 !=0)=true:=(by rw[BU];exact s);clear s;go_enter func163,ntmps163;go_wp2_with fail
   go_region
   all_goals
    go_wp2_with fail;go_ret3;exact⟨⟨none,0,rfl,ag_nil _,λh=>by omega⟩,(Ac _ _).drew⟩
 ·
  have c1:bits BinOp.and IntKind.u8 3 1=1:=by decide+kernel
  have c2:bits BinOp.and IntKind.u8 3 2=2:=by decide+kernel
  rw[k (by unfold badU;omega),Ae (by omega)];simp only;rw[AF (by omega)];clear o k;go_enter func163,ntmps163;go_wp2_with fail
  go_region
  all_goals
   go_wp2_with fail;refine(z.out _ (Ac _ _).drew).mono ?_;rintro e w1⟨⟨u,rfl,d⟩,j⟩;have f:=behind_any u (2*n) (2*n) 1 w.heap.size (nib b) w1 (by omega) (Ab _) (by unfold maxLen;omega) (by omega) d.ag d.own;rw[show((1:Nat):Int)=1 from rfl]at f;have p:=Aa f;have r:=Aa (((Ac w.heap.size w).drew).trans j);clear f d j;go_wp2_with fail;refine p.out.mono ?_;rintro e B⟨⟨t,rfl,d⟩,rfl⟩;have q:=Aa d;clear d;go_wp2_with fail;go_ret3;exact⟨⟨t,_,rfl,q.out⟩,r.out⟩
end Ni
section
open Ni (unpP)
variable {fn : Func} {p u : Tmp} {w : World} {P : Nat → Prop} {base g : Nat} {C : Array Value} {y : V}
theorem BX(h:fn.results=#[.cell p 121, .tmp u])(a:Ξ)(w:Γ)(g:Nat)(y:NV)(e:y.c.d.length=32)(c:a.getD p undef=π g)(d:w.heap[g]?=some (.cells y.cells.toArray 121)):
 (results fn a).run prog w= .ok (θ #[γ y.cells.toArray,a.getD u undef]) w:=by
 have b:a[p]?.getD undef=π g:=by simpa using c
 have f:=CB (P:=prog) w g 121 121 y.cells.toArray (0,0) _ d υ121 rfl (by rw[I0,Ba,NV.len e]);simp[results,h,b,asAddr,f]
theorem Gr(h:fn.results=#[.cell p 121, .tmp u]){post:Ending->Γ->Prop}{Q:Exit->Act->Γ->Prop}{a:Act}(j:bodyPost prog fn post .ret a w->Q .ret a w)(g:Nat)(y:NV)(b:Δ)(e:y.c.d.length=32)
 (d:a.tmps.getD p undef=π g) (i:a.tmps.getD u undef=b) (hd:a.defers=[]) (f:w.heap[g]?=some (.cells y.cells.toArray 121)) (c:post (ω (θ #[γ y.cells.toArray,b])) w):
 Code.wp prog .ret Q a w:=by
 subst i;exact wp_ret (j<|Aq (BX h a.tmps w g y e d f) hd c)
def OwnP(P:Θ)(w:Γ)(g:Nat):Prop:=P g/\∀o,w.frozen? ⟨g,o,none⟩=false
theorem Keep.setRowP{v:Γ}(c:g<base)(b:∀k,base<=k->P k):Keep (Own base v) (OwnP P (v.setRow g C)) v (v.setRow g C):=λk a d=>by
 have e:(v.setRow g C).heap[k]?=v.heap[k]?:=Bc _ _ _ _ (by have:=a.1;omega);exact⟨e,b k a.1,λo=>(Cb (w:=v) e).trans (a.2 o)⟩
def NPost(P:Θ)(w:Γ)(o:Option PN):Ending->Γ->Prop:=λe w'=>Λ w w'/\
 match o with
 |none=>∃y:NV,y.c.d.length=32/\e=ω (θ #[γ y.cells.toArray,β false])
 |some n=>∃y:NV,e=ω (θ #[γ y.cells.toArray,β true])/\NodeAt (OwnP P w') w' y n
theorem Cg{y:NV}(h:y.c.d.length=32):(nz.cells.toArray:Ξ).size=y.cells.toArray.size:=by rw[Ba,Ba,NV.len h];rfl
theorem Cm{y:NV}(h:y.c.d.length=32):(prog.info? 121).map (·.size)=some y.cells.toArray.size:=by rw[I0,Ba,NV.len h]
structure Pn(w v:Γ)(x y:V):Prop where
 row:v.heap[w.heap.size+1+1]?=some (.cells nz.cells.toArray 121)
 bx:B1 w.heap.size v x
 by':B1 (w.heap.size+1) v y
 bel:Λ w v
 sz:w.heap.size+3<=v.heap.size
theorem Pn.go{v v':Γ}{x:V}(h:Pn w v x y)(a:Λ v v'):Pn w v' x y:=⟨Below.row a h.row,h.bx.go a,h.by'.go a,below_go h.bel a,Au h.sz a.size⟩
theorem Xa5(w:Γ)(x y:V):Pn w (((w.alloc (.cells #[β x.l,σ x.ba x.bn x.bc,σ x.ia x.m x.ic] 108)).alloc (.cells #[β y.l,σ y.ba y.bn y.bc,σ y.ia y.m y.ic] 108)).alloc (.cells nz.cells.toArray 121)) x y:=by
 generalize a:w.alloc (.cells #[β x.l,σ x.ba x.bn x.bc,σ x.ia x.m x.ic] 108)=w1;have f:w1.heap.size=w.heap.size+1:=by rw[<-a];simp
 have g:B1 w.heap.size w1 x:=by rw[<-a];exact E9 w x
 have h:Λ w w1:=by rw[<-a];exact below_new w _
 have b:=E9 w1 y;rw[f]at b;generalize c:w1.alloc (.cells #[β y.l,σ y.ba y.bn y.bc,σ y.ia y.m y.ic] 108)=w2 at b⊢;have d:w2.heap.size=w.heap.size+1+1:=by rw[<-c];simp[f]
 have e:Λ w1 w2:=by rw[<-c];exact below_new w1 _
 refine⟨?_,(g.go e).alloc _,b.alloc _,below_go (below_go h e) (below_new _ _),by simp[d]⟩;rw[<-d];exact Ak _ _
theorem YJ{m:Nat}{w0:Γ}{a:Ω}{bs:τ}(h:Ni.Cut w base a m bs)(c:m<=140737488351232):AgK (Own base w) w a m m bs:=⟨h.ag,c,λg off e d=>by
 obtain⟨g',j,cur,b,f,i⟩:=h.own d;rw[e]at b;cases b;exact⟨f,λo=>AN _ _ _ _ _ i⟩⟩
theorem Ik{l:Bool}{bs:τ}{its:List T}(h:LiesP P w (.mk l bs its) y):AgK (OwnP P w) w y.ba y.bn y.bc bs:=by
 obtain⟨⟨_,d,_,_,_,a,c⟩,_⟩:=liesP_eq.1 h;exact⟨d,a.1,λg off e b=>c g off e b⟩
theorem DT{h:Nat}{v:Γ}(b:B1 g v y)(a:g≠h):B1 g (v.setRow h C) y:=by
 have e:(v.setRow h C).heap[g]?=v.heap[g]?:=Bc _ _ _ _ a;exact⟨(Av (w:=v) e).trans b.c0,(Av (w:=v) e).trans b.c1,(Av (w:=v) e).trans b.c2⟩
theorem Jt(K:Θ)(w:Γ)(a:Ω):KidsAt K w a []:=λj r b=>by simp at b
theorem Og(P:Θ)(t u:T)(x y:V)(w:Γ)(hx:Lies w t x)(hy:LiesP P w u y)(hb:∀g,w.heap.size<=g->P g)(W:t.bs.length<=16777216):
 Calls prog 142 #[γ #[β x.l,σ x.ba x.bn x.bc,σ x.ia x.m x.ic],γ #[β y.l,σ y.ba y.bn y.bc,σ y.ia y.m y.ic]] w (NPost P w (pathP t u)):=by
 obtain⟨l,bs,its⟩:=t;obtain⟨l2,F,M⟩:=u;obtain⟨hl,O,-⟩:=lies_eq.1 hx;obtain⟨⟨ay,-⟩,-⟩:=liesP_eq.1 hy;subst hl ay;have W:bs.length<=16777216:=W;have a3:=Aa O;have HY:=Aa hy;have Y:=Aa hb;have HU:=Aa (show∀v,Λ w v->Calls prog 163 #[σ x.ba x.bn x.bc] v λe w'=>(∃a' m,e=ω (θ #[σ a' m m,β (unpP bs).2.1,ι ((unpP bs).2.2:Nat)])/\Ni.Cut w' v.heap.size a' m (unpP bs).1)/\Λ v w' from λv K=>Ni.unpack_any _ _ _ _ v (O.at K) (by have:=O.l;omega));have aq:=Aa (Ni.unp_le bs);have az:=Aa W;obtain⟨ai,B⟩:∃ai,pathP (.mk x.l bs its) (.mk y.l F M)=ai:=⟨_,rfl⟩;rw[B]
 have B:(if x.l=true∨(unpP bs).2.2≠0 then none
  else if(unpP bs).2.1=true then(if y.l=true then none else some (⟨1,(unpP bs).1,F,r0,[]⟩:PN))
  else match refOfP (.mk y.l F M)with
   |none=>none
   |some c=>some ⟨2,(unpP bs).1,[],c,[]⟩)=ai:=B
 obtain⟨pp,U⟩:∃pp,(unpP bs).1=pp:=⟨_,rfl⟩;obtain⟨lf,ad⟩:∃lf,(unpP bs).2.1=lf:=⟨_,rfl⟩;obtain⟨I,ab⟩:∃I,(unpP bs).2.2=I:=⟨_,rfl⟩;rw[U,ad,ab]at B;rw[U,ad,ab]at HU;rw[U]at aq;have aa:=Aa B;have ak:=Aa (Xa5 w x y);clear hx hy O hb W B U ad ab;go_enter func142,ntmps142;go_upto_region 1 with fail;refine gen_w (p:=λv=>Code.wp _ _ _ _ v) (q:=λv=>Pn w v x y) ak.out ?_;clear ak;intro v P0;have c1:=P0.bx.c1;have Q:=Aa P0;clear P0;go_wp2_with fail;refine(HU.out v Q.out.bel).mono ?_;rintro e w1⟨⟨a',m,rfl,Z⟩,aw⟩;have D:=Q.out.go aw;have HM:=Aa (show m<=140737488351232 from by have:=Z.ag.l;have:=aq.out;have:=az.out;omega);have av:=Aa (YJ (w0:=w) Z HM.out);have N:=Aa Q.out.sz;have c0:=D.bx.c0;have d0:=D.by'.c0;have d1:=D.by'.c1;have d2:=D.by'.c2;have f:=Aa D;clear Z aw D c1 Q HU;by_cases r:x.l=true∨I≠0
 ·have b:=aa.out;rw[Ai r]at b;subst b;by_cases R:x.l=true
  ·rw[R]at c0;go_wp2_with (first|refine A5 rfl 121 _ _ rfl _ nz.cells.toArray rfl rfl 121 _ f.out.row (Cm rfl) (Cg rfl) (Am (NV.one _)) ?_);refine Aq (BX results142 _ _ (w.heap.size+1+1) nz rfl rfl (AC _ _ _ _ _ _ f.out.row)) rfl ?_;exact⟨Below.setRow f.out.bel (by omega) _,nz,rfl,rfl⟩
  ·have G:x.l=false:=(by simpa using R);have a2:((I:Int) !=0)=true:=(by rw[BU];have:=r.resolve_left R;omega);rw[G]at c0;clear R r G;go_wp2_with (first|refine A5 rfl 121 _ _ rfl _ nz.cells.toArray rfl rfl 121 _ f.out.row (Cm rfl) (Cg rfl) (Am (NV.one _)) ?_);refine Aq (BX results142 _ _ (w.heap.size+1+1) nz rfl rfl (AC _ _ _ _ _ _ f.out.row)) rfl ?_;exact⟨Below.setRow f.out.bel (by omega) _,nz,rfl,rfl⟩
 ·have b:=aa.out;rw[Ae r]at b;have G:x.l=false:=by cases C:x.l with
   |false=>rfl
   |true=>exact absurd (.inl C) r
  have ax:I=0:=Decidable.byContradiction λh=>r (.inr h);subst ax;rw[G]at c0;rw[show((0:Nat):Int)=0 from rfl];clear G r aa;cases lf with
  |true=>
   rw[Ai rfl]at b;have HR:=Aa b;clear b;go_upto_region 5 with fail;rename_i KK H;refine Cj (S:=λv=>B1 (w.heap.size+1) v y) (by kernel_rfl) ⟨f.out.by'.c0,f.out.by'.c1,f.out.by'.c2⟩ (λn=>?_);refine Br 0 26 (σ a' m m) rfl rfl (by kernel_rfl) (by kernel_rfl) (by kernel_rfl) (λ_ _ _ h=>h) (by kernel_rfl) (λv _=>by kernel_rfl) n<|Br 1 27 (.pointer (some ⟨w.heap.size+1,1,none⟩)) rfl rfl (by kernel_rfl) (by kernel_rfl) (by kernel_rfl) (λ_ _ _ h=>h) (by kernel_rfl) (λv _=>by kernel_rfl) n<|Br 2 28 (σ y.ba y.bn y.bc) rfl rfl (by kernel_rfl) (by kernel_rfl) (by kernel_rfl) (λ_ _ _ h=>h) (by kernel_rfl) (λv K=>FN rfl (by kernel_rfl) K.c1) n<|Br 3 29 (γ (NV.cells ⟨1,a',m,m,y.ba,y.bn,y.bc,rz,none,0,0⟩).toArray) rfl rfl (by kernel_rfl) (by kernel_rfl) (by kernel_rfl) (λ_ _ _ h=>h) (by kernel_rfl) (λv _=>Eh 121 _ rfl [(0,ι 1),(1,σ a' m m),(2,σ y.ba y.bn y.bc)] (by kernel_rfl) _ (GP _ _ _ _ _ _)) n<|Br 4 30 (π (w.heap.size+1)) rfl rfl (by kernel_rfl) (by kernel_rfl) (by kernel_rfl) (λ_ _ _ h=>h) (by kernel_rfl) (λv _=>by kernel_rfl) n<|Br 5 31 (β y.l) rfl rfl (by kernel_rfl) (by kernel_rfl) (by kernel_rfl) (λ_ _ _ h=>h) (by kernel_rfl) (λv K=>OY rfl (by kernel_rfl) K.c0) n<|Br 6 32 (β (!y.l)) rfl rfl (by kernel_rfl) (by kernel_rfl) (by kernel_rfl) (λ_ _ _ h=>h) (by kernel_rfl) (λv _=>by kernel_rfl) n<|AD (rs:=[7]) (by kernel_rfl) (by simp) ?_;refine DF 7 rfl rfl (by kernel_rfl) (D1 121 _ _ rfl (w.heap.size+1+1) (NV.cells ⟨1,a',m,m,y.ba,y.bn,y.bc,rz,none,0,0⟩).toArray (by kernel_rfl) (by kernel_rfl) 121 nz.cells.toArray f.out.row (Cm rfl) (Cg rfl) (Am (NV.one _))) ?_ ?_ AB
   ·exact DT n (by omega)
   refine Br 8 5 (β (!y.l)) rfl rfl (by kernel_rfl) (by kernel_rfl) (by kernel_rfl) (λ_ _ _ h=>h) (by kernel_rfl) (λv _=>by kernel_rfl) (DT n (by omega)) ?_;refine Cq (by kernel_rfl) ?_ _;refine H _ _<|Gr results142 (λh=>h) (w.heap.size+1+1) ⟨1,a',m,m,y.ba,y.bn,y.bc,rz,none,0,0⟩ (β (!y.l)) rfl (by kernel_rfl) (by kernel_rfl) (by kernel_rfl) (AC _ _ _ _ _ _ f.out.row) ?_;have b:=HR.out;refine⟨Below.setRow f.out.bel.drew (by omega) _,?_⟩;cases ao:y.l with
   |true=>
    rw[ao,Ai rfl]at b;subst b;exact⟨⟨1,a',m,m,y.ba,y.bn,y.bc,rz,none,0,0⟩,rfl,rfl⟩
   |false=>
    rw[ao,Ae (by simp)]at b;subst b
    have af:Keep (Own v.heap.size w1) (OwnP P (w1.drew.setRow (w.heap.size+1+1) (NV.cells ⟨1,a',m,m,y.ba,y.bn,y.bc,rz,none,0,0⟩).toArray)) w1 (w1.drew.setRow (w.heap.size+1+1) (NV.cells ⟨1,a',m,m,y.ba,y.bn,y.bc,rz,none,0,0⟩).toArray):=
     Keep.setRowP (v:=w1.drew) (base:=v.heap.size) (by have:=N.out;omega) (λk A=>Y.out k (by have:=N.out;omega))
    have ae:Keep (OwnP P w) (OwnP P (w1.drew.setRow (w.heap.size+1+1) (NV.cells ⟨1,a',m,m,y.ba,y.bn,y.bc,rz,none,0,0⟩).toArray)) w (w1.drew.setRow (w.heap.size+1+1) (NV.cells ⟨1,a',m,m,y.ba,y.bn,y.bc,rz,none,0,0⟩).toArray):=λk i A=>by
     have e:((w1.drew.setRow (w.heap.size+1+1) (NV.cells ⟨1,a',m,m,y.ba,y.bn,y.bc,rz,none,0,0⟩).toArray)).heap[k]?=w.heap[k]?:=(Bc _ _ _ _ (by omega)).trans (f.out.bel.block k A);exact⟨e,i.1,λo=>(Cb (w:=w) e).trans (i.2 o)⟩
    exact⟨⟨1,a',m,m,y.ba,y.bn,y.bc,rz,none,0,0⟩,rfl,rfl,av.out.go af,(Ik HY.out).go ae,Ff _ _,⟨rfl,A8 _,A8 _,A8 _,λ_=>⟨rfl,rfl⟩⟩,Jt _ _ _⟩
  |false=>
   rw[Ae (by simp)]at b;have HR:=Aa b;have a0:=Aa (MM (.mk y.l F M) y w1 (Cl f.out.bel _ y (CS _ _ HY.out)));clear b;go_wp2_with fail;refine a0.out.mono ?_;intro e j E;obtain⟨X,E⟩:=E;have am:=Aa (f.out.go X);have al:=Aa f.out.sz;have b:=HR.out;cases C:refOfP (.mk y.l F M)with
   |none=>
    rw[C]at E b;subst b;obtain⟨a,aj,rfl⟩:=E;have d:=Aa aj;clear X C aj;go_upto_region 7 with(first|refine A5 rfl 118 _ _ rfl _ a.cells.toArray rfl rfl 118 _ (Ak _ _) (CD d.out) (CL d.out) (Am (RV.one _)) ?_);refine gen_w (p:=λv=>Code.wp _ _ _ _ v) (q:=λu=>RBx j.heap.size u a/\Pn w u x y) ⟨⟨AC _ _ _ _ _ _ (Ak _ _),d.out⟩,am.out.go (Below.setRow (below_new j _) (Ab _) _)⟩ ?_;rintro z⟨J,L⟩;have ac:=Aa J;have s:=Aa L;clear J L;rename_i KK H;refine CX<|B9 38 (σ a' m m) rfl (by kernel_rfl) (by kernel_rfl)<|B9 39 (γ a.cells.toArray) rfl (by kernel_rfl) (Gn rfl (by kernel_rfl) d.out ac.out.all)<|B9 40 (γ (NV.cells ⟨2,a',m,m,none,0,0,a,none,0,0⟩).toArray) rfl (by kernel_rfl) (Eh 121 _ rfl [(0,ι 2),(1,σ a' m m),(3,γ a.cells.toArray)] (by kernel_rfl) _ (Gm _ _ _ _ d.out))<|B9 41 (β false) rfl (by kernel_rfl) (by kernel_rfl)<|Fw rfl (by kernel_rfl) (D1 121 _ _ rfl (w.heap.size+1+1) (NV.cells ⟨2,a',m,m,none,0,0,a,none,0,0⟩).toArray (by kernel_rfl) (by kernel_rfl) 121 nz.cells.toArray s.out.row (Cm d.out) (Cg d.out) (Am (NV.one _)))<|B9 5 (β false) rfl (by kernel_rfl) (by kernel_rfl)<|H _ _<|Gr results142 (λh=>h) (w.heap.size+1+1) ⟨2,a',m,m,none,0,0,a,none,0,0⟩ (β false) d.out (by kernel_rfl) (by kernel_rfl) (by kernel_rfl) (AC _ _ _ _ _ _ s.out.row) ?_;exact⟨Below.setRow s.out.bel (by omega) _,⟨2,a',m,m,none,0,0,a,none,0,0⟩,d.out,rfl⟩
   |some c=>
    rw[C]at E b;subst b;obtain⟨a,rfl,ah⟩:=E;have d:=Aa ah.len;have a1:=Aa ah;have ar:=Aa X;clear X C ah;go_upto_region 7 with(first|refine A5 rfl 118 _ _ rfl _ a.cells.toArray rfl rfl 118 _ (Ak _ _) (CD d.out) (CL d.out) (Am (RV.one _)) ?_);refine gen_w (p:=λv=>Code.wp _ _ _ _ v) (q:=λu=>RBx j.heap.size u a/\Pn w u x y/\Λ j u) ⟨⟨AC _ _ _ _ _ _ (Ak _ _),d.out⟩,am.out.go (Below.setRow (below_new j _) (Ab _) _),Below.setRow (below_new j _) (Ab _) _⟩ ?_;rintro z⟨J,L,b3⟩;have ac:=Aa J;have s:=Aa L;have ap:=Aa b3;clear b3;clear J L;rename_i KK H;refine CX<|B9 38 (σ a' m m) rfl (by kernel_rfl) (by kernel_rfl)<|B9 39 (γ a.cells.toArray) rfl (by kernel_rfl) (Gn rfl (by kernel_rfl) d.out ac.out.all)<|B9 40 (γ (NV.cells ⟨2,a',m,m,none,0,0,a,none,0,0⟩).toArray) rfl (by kernel_rfl) (Eh 121 _ rfl [(0,ι 2),(1,σ a' m m),(3,γ a.cells.toArray)] (by kernel_rfl) _ (Gm _ _ _ _ d.out))<|B9 41 (β true) rfl (by kernel_rfl) (by kernel_rfl)<|Fw rfl (by kernel_rfl) (D1 121 _ _ rfl (w.heap.size+1+1) (NV.cells ⟨2,a',m,m,none,0,0,a,none,0,0⟩).toArray (by kernel_rfl) (by kernel_rfl) 121 nz.cells.toArray s.out.row (Cm d.out) (Cg d.out) (Am (NV.one _)))<|B9 5 (β true) rfl (by kernel_rfl) (by kernel_rfl)<|H _ _<|Gr results142 (λh=>h) (w.heap.size+1+1) ⟨2,a',m,m,none,0,0,a,none,0,0⟩ (β true) d.out (by kernel_rfl) (by kernel_rfl) (by kernel_rfl) (AC _ _ _ _ _ _ s.out.row) ?_;have af:Keep (Own v.heap.size w1) (OwnP P (z.setRow (w.heap.size+1+1) (NV.cells ⟨2,a',m,m,none,0,0,a,none,0,0⟩).toArray)) w1 (z.setRow (w.heap.size+1+1) (NV.cells ⟨2,a',m,m,none,0,0,a,none,0,0⟩).toArray):=λk i A=>by
     have e:((z.setRow (w.heap.size+1+1) (NV.cells ⟨2,a',m,m,none,0,0,a,none,0,0⟩).toArray)).heap[k]?=w1.heap[k]?:=(Bc _ _ _ _ (by have:=i.1;have:=N.out;omega)).trans ((ap.out.block k (BQ A ar.out.size)).trans (ar.out.block k A));exact⟨e,Y.out k (by have:=i.1;have:=N.out;omega),λo=>(Cb (w:=w1) e).trans (i.2 o)⟩
    have ae:Keep (Own w1.heap.size j) (OwnP P (z.setRow (w.heap.size+1+1) (NV.cells ⟨2,a',m,m,none,0,0,a,none,0,0⟩).toArray)) j (z.setRow (w.heap.size+1+1) (NV.cells ⟨2,a',m,m,none,0,0,a,none,0,0⟩).toArray):=λk i A=>by
     have e:((z.setRow (w.heap.size+1+1) (NV.cells ⟨2,a',m,m,none,0,0,a,none,0,0⟩).toArray)).heap[k]?=j.heap[k]?:=(Bc _ _ _ _ (by have:=i.1;have:=al.out;omega)).trans (ap.out.block k A);exact⟨e,Y.out k (by have:=i.1;have:=al.out;omega),λo=>(Cb (w:=j) e).trans (i.2 o)⟩
    exact⟨Below.setRow s.out.bel (by omega) _,⟨2,a',m,m,none,0,0,a,none,0,0⟩,rfl,rfl,av.out.go af,Fx _ _,a1.out.go ae,⟨rfl,A8 _,A8 _,A8 _,λ_=>⟨rfl,rfl⟩⟩,Jt _ _ _⟩
end
section
variable {w : World} {g : Nat} {b : List Int} {x : RV}
theorem Q8(h:Row g w b)(o:Nat):w.frozen? ⟨g,o,none⟩=false:=AN _ _ _ _ _ h
theorem Gs{P:Θ}{n:Nat}(h:Row g w b)(d:b.length=n)(c:isB b)(a:n<=140737488351232)(f:P g):LiesP P w (.mk false b []) ⟨false,some ⟨g,0,none⟩,n,n,none,0,0⟩:=
 liesP_eq.2 ⟨⟨rfl,row_ag (n:=n) h d c (Au a (by omega)),rfl,Ab _,A8 _,⟨a,A8 _⟩,λg' off e _=>by cases e;exact⟨f,Q8 h⟩⟩,Dp⟩
theorem II(P:Θ)(w:Γ):LiesP P w t0 ⟨false,none,0,0,none,0,0⟩:=
 liesP_eq.2 ⟨⟨rfl,⟨.inl ⟨rfl,rfl⟩,λ_=>⟨rfl,rfl⟩,rfl,λx a=>by cases a⟩,rfl,Ab _,A8 _,⟨A8 _,A8 _⟩,λg off e=>by cases e⟩,Dp⟩
structure Ri(w v:Γ)(x:RV):Prop where
 row:v.heap[w.heap.size+1]?=some (.cells #[β false,ε,ε] 108)
 bx:RBx w.heap.size v x
 bel:Λ w v
 sz:w.heap.size+2<=v.heap.size
theorem Ri.go{v v':Γ}(h:Ri w v x)(a:Λ v v'):Ri w v' x:=⟨Below.row a h.row,h.bx.go a,below_go h.bel a,Au h.sz a.size⟩
theorem Wm(w:Γ)(x:RV)(a:x.d.length=32):Ri w ((w.alloc (.cells x.cells.toArray 118)).alloc (.cells #[β false,ε,ε] 108)) x:=by
 have b:(w.alloc (.cells x.cells.toArray 118)).heap.size=w.heap.size+1:=by simp
 refine⟨?_,(Jp w x a).go (below_new _ _),below_go (below_new w _) (below_new _ _),by simp⟩;have:=Ak (w.alloc (.cells x.cells.toArray 118)) (.cells #[β false,ε,ε] 108);rwa [b]at this
theorem Ri.x0{v:Γ}(h:Ri w v x):v.cell? ⟨w.heap.size+1,0,none⟩=some (β false):=by rw[Aj _ _ _ _ _ _ h.row];rfl
theorem Ri.x1{v:Γ}(h:Ri w v x):v.cell? ⟨w.heap.size+1,1,none⟩=some (ε):=by rw[Aj _ _ _ _ _ _ h.row];rfl
theorem Ri.x2{v:Γ}(h:Ri w v x):v.cell? ⟨w.heap.size+1,2,none⟩=some (ε):=by rw[Aj _ _ _ _ _ _ h.row];rfl
theorem Ri.xf{v:Γ}(h:Ri w v x):∀o,v.frozen? ⟨w.heap.size+1,o,none⟩=false:=λo=>AN _ _ _ _ _ h.row
def IPost(w:Γ)(t:T):Ending->Γ->Prop:=λe w'=>(∃y:V,e=ω (γ #[β y.l,σ y.ba y.bn y.bc,σ y.ia y.m y.ic])/\LiesP (λb=>w.heap.size<=b) w' t y)/\Λ w w'
theorem EP{v:Γ}{t:T}{y:V}(h:Ri w v x)(a:LiesP (λb=>w.heap.size+2<=b) v t y):
 IPost w t (ω (γ #[β y.l,σ y.ba y.bn y.bc,σ y.ia y.m y.ic])) (((v.setCell ⟨w.heap.size+1,0,none⟩ (β y.l)).setCell ⟨w.heap.size+1,1,none⟩ (σ y.ba y.bn y.bc)).setCell ⟨w.heap.size+1,2,none⟩ (σ y.ia y.m y.ic)):=
 ⟨⟨y,rfl,BD (λb d c=>⟨Dk (by omega) _ _ _,by omega⟩) _ _ a⟩,Ci h.bel (by omega) _ _ _⟩
theorem Ks(K:Nat->Prop)(x:RV)(r:PR)(w:World)(h:RefAt K w x r):
 Calls prog 129 #[.agg x.cells.toArray] w (IPost w (refItemP r)):=by
 have HRI:=Aa (Wm w x h.len);have HH:=Aa h;have HLX:=Aa h.len;obtain⟨res,hres⟩:∃res,refItemP r=res:=⟨_,rfl⟩;rw[hres];unfold refItemP at hres;rw[<-h.1]at hres;have HRES:=Aa hres;clear h hres;go_enter func129,ntmps129;go_upto_region 1 with fail;refine gen_w (p:=λv=>Code.wp _ _ _ _ v) (q:=λv=>Ri w v x) HRI.out ?_;clear HRI;intro v R0;have c0:=R0.bx.c0;have c33:=R0.bx.c33;have HR0:=Aa R0;clear R0;by_cases h1:x.k=1
 ·have hr:=HRES.out;rw[if_pos h1]at hr;have HCD:=Aa (Lx x.a x.n x.c r.i v (HH.out.2.2.2.2.1.at HR0.out.bel) HH.out.2.2.2.2.2.1);have HR:=Aa hr;clear hr HRES;go_wp2_with fail;refine HCD.out.mono ?_;intro e w1 hp;obtain⟨hb1,hp⟩:=hp;have HR1:=Aa (HR0.out.go hb1);have HS0:=Aa HR0.out.sz;have hr:=HR.out;cases hq:decP r.i with
  |bad er=>
   rw[hq]at hp hr;have hr:t0=res:=hr;subst hr;obtain⟨rfl,her⟩:=hp;clear hb1 hq her;go_upto_region 4 with fail;refine gen_w (p:=λv=>Code.wp _ _ _ _ v) (q:=λv=>Ri w v x/\B1 w1.heap.size v ⟨false,none,0,0,none,0,0⟩) ⟨HR1.out.go (below_new w1 _),E9 w1 ⟨false,none,0,0,none,0,0⟩⟩ ?_;rintro v2⟨R2,B2⟩;have x0:=R2.x0;have x1:=R2.x1;have x2:=R2.x2;have xf:=R2.xf;have d0:=B2.c0;have d1:=B2.c1;have d2:=B2.c2;have HR2:=Aa R2;clear R2 B2 c0 c33;go_wp2_with fail;have hr:=put3 HR2.out.row (.bool false) (.slice none 0 0) (.slice none 0 0);refine bodyPost_ret (results_cell_row results129 _ _ (w.heap.size+1) 108 _ (0,0) _ rfl hr underlying108 rfl (by kernel_rfl)) rfl ?_;exact EP (y:=⟨false,none,0,0,none,0,0⟩) HR2.out (II _ _)
  |ok t=>
   rw[hq]at hp hr;have hr:t=res:=hr;subst hr;obtain⟨y,rfl,hy⟩:=hp;have HY:=Aa (show LiesP (λb=>w.heap.size+2<=b) w1 t y from BD (λb hb hlt=>⟨rfl,by have:=HS0.out;omega⟩) _ _ hy);clear hb1 hq hy;go_upto_region 4 with fail;refine gen_w (p:=λv=>Code.wp _ _ _ _ v) (q:=λv=>Ri w v x/\B1 w1.heap.size v y/\LiesP (λb=>w.heap.size+2<=b) v t y) ⟨HR1.out.go (below_new w1 _),E9 w1 _,BD (λb hb hlt=>⟨heap_alloc_old _ _ hlt,hb⟩) _ _ HY.out⟩ ?_;rintro v2⟨R2,B2,L2⟩;have x0:=R2.x0;have x1:=R2.x1;have x2:=R2.x2;have xf:=R2.xf;have d0:=B2.c0;have d1:=B2.c1;have d2:=B2.c2;have HR2:=Aa R2;have HL2:=Aa L2;clear R2 B2 L2 c0 c33;go_wp2_with fail;have hr:=put3 HR2.out.row (.bool y.l) (.slice y.ba y.bn y.bc) (.slice y.ia y.m y.ic);refine bodyPost_ret (results_cell_row results129 _ _ (w.heap.size+1) 108 _ (0,0) _ rfl hr underlying108 rfl (by kernel_rfl)) rfl ?_;exact EP HR2.out HL2.out
 ·by_cases h2:x.k=2
  ·have hr:=HRES.out;rw[if_neg h1,if_pos h2]at hr;subst hr;have hag:Ag v (some ⟨w.heap.size,1,none⟩) 32 32 r.d:=by
    have hd:=HR0.out.bx.digest;rw[HH.out.2.1]at hd;refine⟨.inr ⟨w.heap.size,1,rfl,HH.out.2.2.2.1,by omega,by omega,by unfold maxLen;omega,λj hj=>?_⟩,(λe=>by cases e),HH.out.2.2.2.1,HH.out.2.2.1⟩;exact hd j _ (by rw[List.getElem?_map,List.getD,List.getElem?_eq_getElem hj];rfl)
   have HTX:=Aa (Fk (some ⟨w.heap.size,1,none⟩) 32 32 r.d v hag (by omega));have HS0:=Aa HR0.out.sz;have e1:(x.k==1)=false:=(by simp[h1]);clear hag;go_wp2_with fail;refine HTX.out.mono ?_;rintro e w1⟨rfl,hrow,hb1⟩;have R1:=HR0.out.go hb1;have x0:=R1.x0;have x1:=R1.x1;have x2:=R1.x2;have xf:=R1.xf;have HR1:=Aa R1;have HY:=Aa (Gs (P:=λb=>w.heap.size+2<=b) hrow HH.out.2.2.2.1 HH.out.2.2.1 (by omega) (by have:=HS0.out;omega));clear hrow hb1 R1;go_wp2_with fail;have hr:=put3 HR1.out.row (.bool false) (.slice (some ⟨v.heap.size+1,0,none⟩) 32 32) (.slice none 0 0);refine bodyPost_ret (results_cell_row results129 _ _ (w.heap.size+1) 108 _ (0,0) _ rfl hr underlying108 rfl (by kernel_rfl)) rfl ?_;exact EP (y:=⟨false,some ⟨v.heap.size+1,0,none⟩,32,32,none,0,0⟩) HR1.out HY.out
  ·have hr:=HRES.out;rw[if_neg h1,if_neg h2]at hr;subst hr;have hag:Ag v none 0 0 []:=⟨.inl ⟨rfl,rfl⟩,λ_=>⟨rfl,rfl⟩,rfl,λx hx=>by cases hx⟩;have HTX:=Aa (Fk none 0 0 [] v hag (by omega));have HS0:=Aa HR0.out.sz;have e1:(x.k==1)=false:=(by simp[h1]);have e2:(x.k==2)=false:=(by simp[h2]);clear hag;go_wp2_with fail;refine HTX.out.mono ?_;rintro e w1⟨rfl,hrow,hb1⟩;have R1:=HR0.out.go hb1;have x0:=R1.x0;have x1:=R1.x1;have x2:=R1.x2;have xf:=R1.xf;have HR1:=Aa R1;have HY:=Aa (Gs (P:=λb=>w.heap.size+2<=b) (n:=0) hrow rfl (λx hx=>by cases hx) (by omega) (by have:=HS0.out;omega));clear hrow hb1 R1;go_wp2_with fail;have hr:=put3 HR1.out.row (.bool false) (.slice (some ⟨v.heap.size+1,0,none⟩) 0 0) (.slice none 0 0);refine bodyPost_ret (results_cell_row results129 _ _ (w.heap.size+1) 108 _ (0,0) _ rfl hr underlying108 rfl (by kernel_rfl)) rfl ?_;exact EP (y:=⟨false,some ⟨v.heap.size+1,0,none⟩,0,0,none,0,0⟩) HR1.out HY.out
end
section
open Di (dref)
theorem G7{ds:τ}(h:ds.length=32):(B8 z32).size=(B8 ds).size:=by rw[B8_size,B8_size,h];rfl
theorem D5{ds:τ}(h:ds.length=32):(prog.info? 44).map (·.size)=some (B8 ds).size:=by rw[VV,B8_size,h]
theorem B8_one(bs:τ):(B8 bs).all (·.oneCell')=true:=Am (B8_one2 bs)
theorem Xa6:encP t0=([128],0):=by decide+kernel
theorem LC(w:Γ):Calls prog 37 #[] w λe w'=>e=ω (γ (B8 (dref [128])))/\Λ w w':=by
 have g:=Aa (λ(v:Γ)=>LA (some ⟨v.heap.size,0,none⟩) 1 1 [128] (v.alloc (.cells #[η 128] 5)) (Ni.row_ag (show Ni.Row v.heap.size (v.alloc (.cells #[η 128] 5)) [128]from Ak _ _) rfl (λx l=>by simp at l;omega) (show(1:Nat)<=9223372036854775807 by decide)) (by omega));have a:=Aa (dref_len [128]);obtain⟨ds,f⟩:∃ds,dref [128]=ds:=⟨_,rfl⟩;rw[f]at g a⊢;clear f;go_enter func37,ntmps37;go_upto_region 1 with fail;refine gen_w (p:=λv=>Code.wp _ _ _ _ v) (q:=λv=>v.heap[w.heap.size]?=some (.cells (B8 z32) 44)/\Λ w v) ⟨Ak _ _,below_new _ _⟩ ?_;rintro v⟨c,h⟩;have i:=Aa c;have k:=Aa h;clear c h;go_wp2_with fail;refine(g.out v).mono ?_;rintro e w1⟨rfl,b⟩;have d:=Aa (Below.row (below_go (below_new v _) b) i.out);have j:=Aa (below_go k.out (below_go (below_new v _) b));clear b;go_wp2_with (first|refine A5 rfl 44 _ _ rfl _ (B8 ds) rfl rfl 44 _ d.out (D5 a.out) (G7 a.out) (B8_one _) ?_);refine Aq (Be results37 _ _ w.heap.size 44 (B8 ds) (0,0) _ rfl (AC _ _ _ _ _ _ d.out) υ44 rfl (D5 a.out)) rfl ?_;exact⟨rfl,Below.setRow j.out (Ab _) _⟩
theorem I3(w:Γ):Calls prog 34 #[] w λe w'=>e=ω (γ (B8 (dref [128])))/\Λ w w':=by
 have b:=Aa (dref_len [128]);have t:=Aa (λ(v:Γ)(a:Ω)(c:Nat)(h:Ag v a 1 c [128])=>KN a 1 c [128] v h (by omega));obtain⟨ds,s⟩:∃ds,dref [128]=ds:=⟨_,rfl⟩;rw[s]at t b⊢;clear s;have C:=Aa (λv=>Fk none 0 0 [] v ⟨.inl ⟨rfl,rfl⟩,λ_=>⟨rfl,rfl⟩,rfl,λx k=>by cases k⟩ (by omega));go_enter func34,ntmps34;go_upto_region 1 with fail;refine gen_w (p:=λv=>Code.wp _ _ _ _ v) (q:=λv=>v.heap[w.heap.size]?=some (.cells (B8 z32) 44)/\Λ w v) ⟨Ak _ _,below_new _ _⟩ ?_;rintro v⟨r,z⟩;have o:=Aa r;have A:=Aa z;clear r z;go_wp2_with fail;refine(C.out v).mono ?_;rintro e w1⟨rfl,u,g⟩;have l:=CS _ _ (Gs (P:=λ_=>True) (n:=0) u rfl (λx k=>by cases k) (by omega) trivial);have j:=IF (.mk false [] []) ⟨false,some ⟨v.heap.size+1,0,none⟩,0,0,none,0,0⟩ w1 l;rw[show encP (.mk false [] [])=([128],0)from Xa6]at j;have H:=Aa j;have D:=Aa (below_go A.out g);have B:=Aa (Below.row g o.out);clear u g l j o A;go_wp2_with fail;refine H.out.mono ?_;rintro e K⟨⟨a,m,c,rfl,d,-⟩,f⟩;have J:m=1:=d.l.symm;subst J;have G:=Aa (t.out K a c d);have E:=Aa (below_go D.out f);have I:=Aa (Below.row f B.out);clear d f;go_wp2_with fail;refine G.out.mono ?_;rintro e L⟨rfl,i⟩;have y:=Aa (Below.row i I.out);have F:=Aa (below_go E.out i);clear i;go_wp2_with (first|refine A5 rfl 44 _ _ rfl _ (B8 ds) rfl rfl 44 _ y.out (D5 b.out) (G7 b.out) (B8_one _) ?_);refine Aq (Be results34 _ _ w.heap.size 44 (B8 ds) (0,0) _ rfl (AC _ _ _ _ _ _ y.out) υ44 rfl (D5 b.out)) rfl ?_;exact⟨rfl,Below.setRow F.out (Ab _) _⟩
end
section
open Tr
open Di (dref)
variable {K K1 : Nat → Prop} {w : World} {g n c : Nat} {a : Option Addr} {k : List Int}
theorem Il{fn:Func}{p:Tmp}{f:Nat->Δ}(h:fn.results=#[.cell p 44])(w:Γ)(g:Nat)(ds:τ)(b:ds.length=32)(a:f p=π g)(c:Rw g w (B8 ds) 44):(resF f fn.results).run prog w= .ok (γ (B8 ds)) w:=by
 have:=CB (P:=prog) w g 44 44 _ _ _ c υ44 rfl (D5 b);unfold resF;rw[h];simp[a,this,asAddr]
theorem ol_eqD{ρ:Φ}{w:Γ}{x y:Operand}{o:Oper}{ds:τ}(d:o.op= .binOp .eql 44 x y 44)(c:ρ x=γ (B8 ds))(b:ρ y=γ (B8 ds))(a:ds.length=32):(execOp ρ o).run prog w= .ok (.value (β true)) w:=by
 have e:=Xbp ds ds a a w;simp at e;unfold execOp;rw[d];simp only[c,b];go_simp
theorem Sr{w1 d:Γ}{g:Nat}{x:Int}(i:0<=x/\x<256)(k:New w1 d g #[η x] 5){K:Θ}(h:∀b,w1.heap.size<=b->K b):∃c,(∀(ρ:Φ)(o:Oper)(y:Operand),o.op= .convert 32 32 y->ρ y=σ (ζ g 0) 1 1->(execOp ρ o).run prog d= .ok (.value (σ (ζ g 0) 1 1)) c)/\Λ w1 c/\Sk K c (ζ g 0) 1 1 [x]:=by
 obtain⟨rfl,rfl⟩:=k;refine⟨w1.alloc (.cells #[η x] 5 (1,2)),?_,(Ac _ _).alloc (Ab _) _,?_⟩
 ·intro ρ o y ho a;have:=Lib.run_convert_bytes_const (P:=prog) w1 32 5 #[η x] 1 1 υ32 υ5;unfold execOp;simp only[ho,a,AO,this,A4,AV];rfl
 ·refine⟨⟨.inr ⟨w1.heap.size,0,rfl,rfl,by omega,by omega,by unfold maxLen;omega,λj f=>?_⟩,(λe=>by cases e),rfl,λy a=>by rw[Bz.1 a];exact i⟩,λy a _=>?_⟩
  ·have:j=0:=(by simpa using f);subst this;rw[Aj _ _ _ _ _ _ (Ak w1 _)];rfl
  ·cases a;exact h _ (Ab _)
theorem Tri.lt{t:Tr}(h:Tri K w g t):g<w.heap.size:=by
 obtain⟨⟨v,a,_⟩,_⟩:=h;exact lt_of_get a
theorem YK{t:Tr}(h:Tri K w g t)(f:Sk K1 w a n c k)(o:n<=32)(j:∀b,w.heap.size<=b->K b):
 κ 41 #[π g,σ a n c] w λu w'=>(∃d e c2 b,u=θ #[σ d e c2,β b,ι 0]/\b=decide (Tr.get t (Ni.nib k)≠[])/\Sk (λb=>w.heap.size<=b) w' d e c2 (Tr.get t (Ni.nib k)))/\Bl w w':=by
 obtain⟨⟨v,l,i⟩,m⟩:=h;exact Xap l i m f o j
def putT(t:Tr)(k x:τ):Tr:=if k.length<=32/\0<x.length/\x.length<=256 then put t (Ni.nib k) x else t
def putE(k x:τ):Int:=if k.length<=32 then(if 0<x.length/\x.length<=256 then 0 else 71)else 70
def delT(t:Tr)(k:τ):Tr:=if k.length<=32/\Tr.get t (Ni.nib k)≠[]then del t (Ni.nib k)else t
theorem Ju{K0:Θ}{t:Tr}(h:Tri K w g t)(i:Sk K1 w a n c k){ax:Ω}{nx cx:Nat}{x:τ}(p:Sk K0 w ax nx cx x)(z:∀b,w.heap.size<=b->K b):
 κ 12 #[π g,σ a n c,σ ax nx cx] w λu w'=>u=ι (putE k x)/\Tri K w' g (putT t k x)/\Touch g w w':=by
 have y:=i.len;have s:=p.len;unfold putE putT;rw[y,s];by_cases d:n<=32
 ·by_cases m:0<nx
  ·by_cases l:nx<=256
   ·rw[Ai d,Ai ⟨m,l⟩,Ai ⟨d,m,l⟩];obtain⟨⟨v,A,r⟩,B⟩:=h;exact Yq A r B i d p l m z
   ·rw[Ai d,Ae (λq=>l q.2),Ae (λq=>l q.2.2)];exact(Yt i p d (by omega)).mono (λe w'⟨u,j,o,f⟩=>⟨u,j,o,h.go f,Touch.of_below f⟩)
  ·rw[Ai d,Ae (λq=>m q.1),Ae (λq=>m q.2.1)];exact(Yr i p d (by omega)).mono (λe w'⟨u,j,o,f⟩=>⟨u,j,o,h.go f,Touch.of_below f⟩)
 ·rw[Ae d,Ae (λq=>d q.1)];exact(Xaq i p (by omega)).mono (λe w'⟨u,j,o,f⟩=>⟨u,j,o,h.go f,Touch.of_below f⟩)
theorem Wp{t:Tr}(h:Tri K w g t)(j:Sk K1 w a n c k)(s:∀b,w.heap.size<=b->K b):
 κ 11 #[π g,σ a n c] w λu w'=>(∃b z,u=θ #[β b,ι z])/\Tri K w' g (delT t k)/\Touch g w w':=by
 have y:=j.len;unfold delT;rw[y];by_cases m:n<=32
 ·by_cases l:Tr.get t (Ni.nib k)=[]
  ·rw[Ae (λq=>q.2 l)];have x:=h;obtain⟨⟨v,p,o⟩,r⟩:=x;exact(Kd p o r j m s l).mono (λe w'⟨u,f,i,d⟩=>⟨u,f,⟨_,_,i⟩,h.go d,Touch.of_below d⟩)
  ·rw[Ai ⟨m,l⟩];obtain⟨⟨v,p,o⟩,r⟩:=h;exact(Ke p o r j m s l).mono (λe w'⟨u,f,i,d,A⟩=>⟨u,f,⟨_,_,i⟩,d,A⟩)
 ·rw[Ae (λq=>m q.1)];exact(OI j (by omega)).mono (λe w'⟨u,f,i,d⟩=>⟨u,f,⟨_,_,i⟩,h.go d,Touch.of_below d⟩)
theorem YL(i:Rw g w #[ν] 71):
 κ 13 #[π g] w λu w'=>(λu w'=>u=γ (B8 (dref [128]))/\Bl w w') u w':=by
 have a:=Bl.refl w;have c:=dref_len [128];obtain⟨ds,k⟩:∃ds,dref [128]=ds:=⟨_,rfl⟩;rw[k]at c⊢;refine Ck func13 16<|Hn 2 (B8 z32) 44 ?_;intro w1 f d b;have o:=d.hg;replace i:=i.go d.below;refine Hl 8 i 0 69 (ν)<|Hc 6 (R:=λu w'=>u=γ (B8 ds)/\Bl (w1) w') ((I3 (w1)).mono (λe w' h=>⟨_,by rw[h.1,k],rfl,h.2⟩)) ?_;rintro _ p⟨rfl,j⟩;replace b:=b.go j;refine Hy 0 (og f13 2 1) f (B8 ds) (λ_=>AM 44 _ _ _ _ _ _ rfl (by kernel_rfl) (by kernel_rfl) b (D5 c) (G7 c) (B8_one _)) ?_;intro m l;replace a:=(a.go d.below).go j;replace a:Bl w m:=l.below a (by omega) a.size;have n:Rw f m (B8 ds) 44:=l.row b;exact JI 4 (γ (B8 ds)) (λ_=>Il results13 _ f ds c (by kernel_rfl) n) ⟨_,rfl,rfl,a⟩
end
section
open Tr
structure KpU(U:Θ)(M:Nat)(A B:Γ):Prop where
 size:A.heap.size<=B.heap.size
 keep:∀k cs T fr,k<M->¬U k->A.heap[k]?=some (.cells cs T fr)->B.heap[k]?=some (.cells cs T fr)
abbrev PList:=List (τ×τ)
structure Vis(l B0:Nat)(Z:PList)(U:Θ)(J:PList->Γ->Prop)(Jx:Γ->Prop):Prop where
 go:∀{pre:PList}{W W':Γ},J pre W->Λ W W'->J pre W'
 gx:∀{W W':Γ},Jx W->Λ W W'->Jx W'
 lo:∀b,U b->b<B0
 y:∀{pre:PList}{W:Γ}{M:Nat}{a a':Ω}{n c n' c':Nat}{k x:τ},J pre W->(pre++[(k,x)])<+:Z->B0<=M->M<=W.heap.size->Sk (λb=>M<=b) W a n c k->Sk (λb=>M<=b) W a' n' c' x->
  YieldAt Fence.wide 0 prog l #[σ a n c,σ a' n' c'] W λe W'=>(e=ω (β true)/\J (pre++[(k,x)]) W'/\KpU U M W W')∨(e=ω (β false)/\Jx W')
def RE(U:Θ)(J:PList->Γ->Prop)(Jx:Γ->Prop)(w:Γ)(L:PList):Δ->Γ->Prop:=λu w'=>(u=β true/\J L w'/\KpU U w.heap.size w w')∨(u=β false/\Jx w')
def entsF(p:τ):Tr->PList
 |no=>[]
 |leaf q x=>[((Ni.keyP (p++q)).1,x)]
 |ext q c=>entsF (p++q) c
 |br k x=>(if x=[]then[]else[((Ni.keyP p).1,x)])++(List.range 16).flatMap λi=>if(k i).isNo then[]else entsF (p++[(i:Int)]) (k i)
end
namespace Tr
end Tr
namespace Tr
end Tr
section
open Ni (lessP FK)
theorem less_irr:∀a:τ,lessP a a=false
 |[]=>rfl
 |x::r=>by simp[lessP,less_irr r]
theorem less_trans:∀a b c:τ,lessP a b=true->lessP b c=true->lessP a c=true
 |[],[],_,h,_=>by simp[lessP]at h
 |[],_::_,[],_,h=>by simp[lessP]at h
 |[],_::_,_::_,_,_=>rfl
 |_::_,[],_,h,_=>by simp[lessP]at h
 |_::_,_::_,[],_,h=>by simp[lessP]at h
 |x::a,y::b,z::c,h,k=>by
  simp only[lessP]at h k⊢;by_cases e:x=y
  ·subst e;rw[Ai rfl]at h;by_cases d:x=z
   ·subst d;rw[Ai rfl]at k⊢;exact less_trans a b c h k
   ·rw[Ae d]at k⊢;exact k
  ·rw[Ae e]at h;by_cases d:y=z
   ·subst d;rw[Ae e];exact h
   ·rw[Ae d]at k;have g:=B6 h;have f:=B6 k;rw[Ae (by omega)];exact AF (by omega)
theorem less_tot(a b:τ)(h:a≠b)(k:lessP a b=false):lessP b a=true:=by
 have:=FK a b;simpa[h,k]using this
def cmpP(a b:τ):Int:=if a=b then 0 else if lessP a b then-1 else 1
theorem cmp_lt(a b:τ):decide (cmpP a b<0)=lessP a b:=by
 unfold cmpP;by_cases h:a=b
 ·subst h;simp[less_irr]
 ·rw[Ae h];cases lessP a b<;>simp
def SrtB(M:List τ):Prop:=M.Pairwise λa b=>lessP a b=true
theorem MN:∀A B:List τ,SrtB A->SrtB B->(∀x,x∈A↔x∈B)->A=B
 |[],[],_,_,_=>rfl
 |[],b::B,_,_,h=>by have:=(h b).2 (by simp);simp at this
 |a::A,[],_,_,h=>by have:=(h a).1 (by simp);simp at this
 |a::A,b::B,k,j,h=>by
  obtain⟨d,i⟩:=B5.1 k;obtain⟨f,g⟩:=B5.1 j;have e:a=b:=by
   rcases Ay.1 ((h a).1 (by simp))with q|q
   ·exact q
   ·rcases Ay.1 ((h b).2 (by simp))with p|p
    ·exact p.symm
    ·have:=less_trans _ _ _ (d _ p) (f _ q);rw[less_irr]at this;cases this
  subst e;congr 1;refine MN A B i g λx=>⟨λc=>?_,λc=>?_⟩
  ·rcases Ay.1 ((h x).1 (Az _ c))with q|q
   ·subst q;have:=d _ c;rw[less_irr]at this;cases this
   ·exact q
  ·rcases Ay.1 ((h x).2 (Az _ c))with q|q
   ·subst q;have:=f _ c;rw[less_irr]at this;cases this
   ·exact q
def ddg(p:τ):List τ->List τ
 |[]=>[]
 |y::r=>if y=p then ddg p r else y::ddg y r
def dd:List τ->List τ
 |[]=>[]
 |x::r=>x::ddg x r
theorem LD(b a:τ):∀(M:List τ)(p:τ),ddg p (M++[a,b])=ddg p (M++[a])++(if b=a then[]else[b])
 |[],p=>by
  simp only[AH,ddg];by_cases h:a=p
  ·subst h;by_cases k:b=a<;>simp[k]
  ·simp only[Ae h];by_cases k:b=a<;>simp[k]
 |y::M,p=>by
  simp only[BS,ddg];by_cases h:y=p
  ·rw[Ai h,Ai h];exact LD b a M p
  ·rw[Ae h,Ae h,LD b a M y,BS]
theorem YM(M:List τ)(a b:τ):dd (M++[a,b])=dd (M++[a])++(if b=a then[]else[b]):=by
 cases M with
 |nil=>simp only[AH,dd,ddg];by_cases h:b=a<;>simp[h]
 |cons x M=>simp only[BS,dd];rw[LD]
theorem Oh(x:τ):∀(M:List τ)(p:τ),(x=p∨x∈ddg p M)↔(x=p∨x∈M)
 |[],p=>by simp[ddg]
 |y::M,p=>by
  simp only[ddg];by_cases h:y=p
  ·subst h;rw[Ai rfl,Oh x M y];constructor
   ·rintro(q|q)
    ·exact .inl q
    ·exact .inr (Az _ q)
   ·rintro(q|q)
    ·exact .inl q
    ·rcases Ay.1 q with q|q
     ·exact .inl q
     ·exact .inr q
  ·rw[Ae h];have:=Oh x M y;simp only[Ay];constructor
   ·rintro(q|q)
    ·exact .inl q
    ·exact .inr (this.1 q)
   ·rintro(q|q)
    ·exact .inl q
    ·exact .inr (this.2 q)
theorem Xa7(x:τ)(M:List τ):x∈dd M↔x∈M:=by
 cases M with
 |nil=>rfl
 |cons y M=>
  simp only[dd,Ay];exact Oh x M y
theorem Oi:∀(M:List τ)(p:τ),(p::M).Pairwise (λa b=>lessP b a=false)->SrtB (p::ddg p M)
 |[],p,_=>by simp[ddg,SrtB]
 |y::M,p,h=>by
  obtain⟨g,c⟩:=B5.1 h;obtain⟨k,j⟩:=B5.1 c;simp only[ddg];by_cases e:y=p
  ·subst e;rw[Ai rfl];exact Oi M y c
  ·rw[Ae e];have f:=Oi M y c;refine B5.2 ⟨λz i=>?_,f⟩;have d:=less_tot y p e (g y (by simp));rcases Ay.1 i with q|q
   ·rw[q];exact d
   ·exact less_trans _ _ _ d ((B5.1 f).1 z q)
theorem Xa8(M:List τ)(h:M.Pairwise (λa b=>lessP b a=false)):SrtB (dd M):=by
 cases M with
 |nil=>simp[dd,SrtB]
 |cons y M=>exact Oi M y h
theorem Xa9:∀M:List τ,(dd M).length<=M.length:=by
 have h:∀(M:List τ)(p:τ),(ddg p M).length<=M.length:=by
  intro M
  induction M with
  |nil=>intro p;simp[ddg]
  |cons y M a=>intro p;simp only[ddg];split<;>simp<;>(have:=a p;have:=a y;omega)
 intro M;cases M with
 |nil=>simp[dd]
 |cons x M=>simp only[dd,AE];have:=h M x;omega
end
section
open Tr
open Ni (lessP)
def entsR:Tr->PList
 |no=>[]
 |leaf q x=>[(q,x)]
 |ext q c=>(entsR c).map λe=>(q++e.1,e.2)
 |br k x=>(if x=[]then[]else[([],x)])++(List.range 16).flatMap λi=>(entsR (k i)).map λe=>((i:Int)::e.1,e.2)
theorem FP{α β:Type}(f g:α->List β):∀l:List α,(∀i∈l,f i=g i)->l.flatMap f=l.flatMap g
 |[],_=>rfl
 |a::l,h=>by rw[Cp,Cp,h a (by simp),FP f g l (λi b=>h i (Az _ b))]
theorem Ph:∀(t:Tr)(q:τ),entsF q t=(entsR t).map λe=>((Ni.keyP (q++e.1)).1,e.2):=by
 intro t
 induction t with
 |no=>intro q;rfl
 |leaf p x=>intro q;rfl
 |ext p c a=>intro q;simp[entsF,entsR,a,AX]
 |br k x a=>
  intro q;simp only[entsF,entsR,Bp,List.map_flatMap];congr 1
  ·by_cases h:x=[]<;>simp[h]
  ·refine FP _ _ _ (λi _=>?_);rw[a i];by_cases h:(k i).isNo=true
   ·rw[Ai h];cases b:k i<;>simp_all [isNo,entsR]
   ·rw[Ae h];simp[DK,Function.comp,AX]
theorem Wq(q a b:τ):lessP (q++a) (q++b)=lessP a b:=by
 induction q with
 |nil=>rfl
 |cons x q c=>simp[lessP,c]
def SrtP(l:PList):Prop:=l.Pairwise λe f=>lessP e.1 f.1=true
theorem LE{α:Type}{R:α->α->Prop}(f:Nat->List α):∀n:Nat,(∀i,i<n->(f i).Pairwise R)->(∀i j,i<j->j<n->∀a∈f i,∀b∈f j,R a b)->((List.range n).flatMap f).Pairwise R
 |0,_,_=>by simp
 |n+1,d,c=>by
  rw[CO,C7,List.pairwise_append];refine⟨LE f n (λi e=>d i (by omega)) (λi j h o=>c i j h (by omega)),by simpa using d n (by omega),?_⟩;intro a l b m;obtain⟨i,e,k⟩:=Cv.1 l;have g:b∈f n:=by simpa using m
  exact c i n (Da.1 e) (by omega) a k b g
theorem Wr:∀t:Tr,SrtP (entsR t):=by
 intro t
 induction t with
 |no=>simp[entsR,SrtP]
 |leaf p x=>simp[entsR,SrtP]
 |ext p c g=>
  simp only[entsR,SrtP,Dj]at g⊢;exact g.imp (λh=>by rw[Wq];exact h)
 |br k x g=>
  simp only[entsR,SrtP];rw[List.pairwise_append];refine⟨?_,?_,?_⟩
  ·by_cases h:x=[]<;>simp[h]
  ·refine LE _ 16 (λi q=>?_) (λi j n o a d b l=>?_)
   ·rw[Dj];exact(g i).imp (λh=>by simp[lessP,h])
   ·obtain⟨e,_,rfl⟩:=BC.1 d;obtain⟨f,_,rfl⟩:=BC.1 l;simp only[lessP];rw[Ae (by omega)];exact AF (by omega)
  ·intro a d b l;obtain⟨i,_,m⟩:=Cv.1 l;obtain⟨f,_,rfl⟩:=BC.1 m;by_cases h:x=[]
   ·simp[h]at d
   ·simp[h]at d;rw[d];rfl
theorem Jv:∀(t:Tr){B:Nat},Tr.Ok B t->∀p x,(p,x)∈entsR t↔(Nb p/\Tr.get t p=x/\x≠[]):=by
 intro t
 induction t with
 |no=>intro B f;exact f.elim
 |leaf q v=>
  intro B f p x;simp only[entsR,Bz,C5,Tr.get];constructor
  ·rintro⟨rfl,rfl⟩;exact⟨f.1,Ai rfl,f.2.2⟩
  ·rintro⟨d,a,b⟩;by_cases e:p=q
   ·rw[Ai e]at a;exact⟨e,a.symm⟩
   ·rw[Ae e]at a;exact absurd a.symm b
 |ext q c l=>
  intro B f p x;obtain⟨z,D,A,C,w⟩:=f;simp only[entsR,BC,C5,Tr.get];constructor
  ·rintro⟨⟨p',s⟩,g,rfl,rfl⟩;obtain⟨d,a,b⟩:=(l w p' s).1 g;exact⟨z.app d,by simp[a],b⟩
  ·rintro⟨d,a,b⟩;by_cases e:p.take q.length=q
   ·rw[Ai e]at a;refine⟨(p.drop q.length,x),(l w _ _).2 ⟨d.drop _,a,b⟩,?_,rfl⟩;have:=Bj q.length p;rw[e]at this;exact this
   ·rw[Ae e]at a;exact absurd a.symm b
 |br k v l=>
  intro B f p x;simp only[entsR,AP,Cv,Da,BC,C5];constructor
  ·rintro(h|⟨i,m,⟨p',s⟩,g,rfl,rfl⟩)
   ·by_cases e:v=[]
    ·simp[e]at h
    ·simp[e]at h;obtain⟨rfl,rfl⟩:=h;exact⟨λi m=>by simp at m,rfl,e⟩
   ·rcases f.1 i with h|⟨u,y,n⟩
    ·rw[h]at g;simp[entsR]at g
    ·obtain⟨d,a,b⟩:=(l i n p' s).1 g;refine⟨λj o=>?_,by simpa[Tr.get]using a,b⟩;rcases Ay.1 o with e|o
     ·omega
     ·exact d j o
  ·rintro⟨d,a,b⟩;cases p with
   |nil=>
    left;have a:v=x:=a;rw[Ae (by rw[a];exact b)];simp[a]
   |cons i r=>
    right;have m:=d.head;obtain⟨j,rfl⟩:=Df m.1;have a:Tr.get (k j) r=x:=a;rcases f.1 j with h|⟨u,y,n⟩
    ·rw[h]at a;exact absurd a.symm b
    ·exact⟨j,u,(r,x),(l j n r x).2 ⟨d.tail,a,b⟩,rfl,rfl⟩
theorem MO:∀A B:PList,SrtP A->SrtP B->(∀x,x∈A↔x∈B)->A=B
 |[],[],_,_,_=>rfl
 |[],b::B,_,_,h=>by have:=(h b).2 (by simp);simp at this
 |a::A,[],_,_,h=>by have:=(h a).1 (by simp);simp at this
 |a::A,b::B,k,j,h=>by
  obtain⟨d,i⟩:=B5.1 k;obtain⟨f,g⟩:=B5.1 j;have e:a=b:=by
   rcases Ay.1 ((h a).1 (by simp))with q|q
   ·exact q
   ·rcases Ay.1 ((h b).2 (by simp))with p|p
    ·exact p.symm
    ·have:=less_trans _ _ _ (d _ p) (f _ q);rw[less_irr]at this;cases this
  subst e;congr 1;refine MO A B i g λx=>⟨λc=>?_,λc=>?_⟩
  ·rcases Ay.1 ((h x).1 (Az _ c))with q|q
   ·subst q;have:=d _ c;rw[less_irr]at this;cases this
   ·exact q
  ·rcases Ay.1 ((h x).2 (Az _ c))with q|q
   ·subst q;have:=f _ c;rw[less_irr]at this;cases this
   ·exact q
def Byk(k:τ):Prop:=∀y∈k,0<=y/\y<256
def atN(k:τ):PList->Nat
 |[]=>0
 |e::r=>if lessP e.1 k then atN k r+1 else 0
theorem LF(k:τ):∀l:PList,atN k l<=l.length
 |[]=>Ab _
 |e::r=>by have:=LF k r;simp only[atN];split<;>simp<;>omega
def isAt(k:τ)(l:PList):Bool:=match l[atN k l]? with
 |some e=>decide (e.1=k)
 |none=>false
def putR(k x:τ):PList->PList
 |[]=>[(k,x)]
 |e::r=>if lessP e.1 k then e::putR k x r else if e.1=k then(k,x)::r else(k,x)::e::r
def delR(k:τ):PList->PList
 |[]=>[]
 |e::r=>if lessP e.1 k then e::delR k r else if e.1=k then r else e::r
theorem JO(k:τ)(e:τ×τ)(r:PList):isAt k (e::r)=if lessP e.1 k then isAt k r else decide (e.1=k):=by
 unfold isAt;simp only[atN];by_cases h:lessP e.1 k=true
 ·simp[h]
 ·simp[h]
theorem LG(k x:τ):∀l:PList,putR k x l=l.take (atN k l)++[(k,x)]++l.drop (if isAt k l then atN k l+1 else atN k l)
 |[]=>by simp[putR,atN,isAt]
 |e::r=>by
  have b:=LG k x r;rw[JO];simp only[putR,atN];by_cases h:lessP e.1 k=true
  ·simp only[h,if_true];rw[b];cases isAt k r<;>simp
  ·simp only[h,BG,Dm];by_cases a:e.1=k
   ·simp[a]
   ·simp[a]
theorem LH(k:τ):∀l:PList,delR k l=if isAt k l then l.take (atN k l)++l.drop (atN k l+1)else l
 |[]=>by simp[delR]
 |e::r=>by
  have b:=LH k r;rw[JO];simp only[delR,atN];by_cases h:lessP e.1 k=true
  ·simp only[h,if_true];rw[b];cases isAt k r<;>simp
  ·simp only[h,BG,Dm];by_cases a:e.1=k
   ·simp[a]
   ·simp[a]
theorem LI(k:τ):∀l:PList,SrtP l->(isAt k l=true↔∃x,(k,x)∈l)
 |[],_=>by simp[isAt]
 |e::r,h=>by
  obtain⟨d,c⟩:=B5.1 h;rw[JO];by_cases a:lessP e.1 k=true
  ·rw[Ai a,LI k r c];constructor
   ·rintro⟨x,b⟩;exact⟨x,Az _ b⟩
   ·rintro⟨x,b⟩;rcases Ay.1 b with q|q
    ·rw[<-q]at a;simp[less_irr]at a
    ·exact⟨x,q⟩
  ·rw[Ae a];constructor
   ·intro hd;have:=B6 hd;exact⟨e.2,by rw[<-this];simp⟩
   ·rintro⟨x,b⟩;rcases Ay.1 b with q|q
    ·exact AF (by rw[<-q])
    ·exact absurd (d _ q) a
theorem Jw(k x:τ):∀l:PList,SrtP l->∀c d,(c,d)∈putR k x l↔(c=k/\d=x)∨(c≠k/\(c,d)∈l)
 |[],_,c,d=>by simp[putR]
 |e::r,h,c,d=>by
  obtain⟨m,o⟩:=B5.1 h;have p:=Jw k x r o c d;simp only[putR];by_cases f:lessP e.1 k=true
  ·rw[Ai f,Ay,p,Ay];have j:e.1≠k:=λb=>by rw[b,less_irr]at f;cases f
   constructor
   ·rintro(q|q|q)
    ·exact .inr ⟨by rw[<-q]at j;exact j, .inl q⟩
    ·exact .inl q
    ·exact .inr ⟨q.1, .inr q.2⟩
   ·rintro(q|⟨g,a|a⟩)
    ·exact .inr (.inl q)
    ·exact .inl a
    ·exact .inr (.inr ⟨g,a⟩)
  ·rw[Ae f];by_cases b:e.1=k
   ·rw[Ai b,Ay,Ay,C5];constructor
    ·rintro(q|q)
     ·exact .inl q
     ·refine .inr ⟨λi=>?_, .inr q⟩;have:=m _ q;rw[b,i,less_irr]at this;cases this
    ·rintro(q|⟨g,a|a⟩)
     ·exact .inl q
     ·exact absurd (by rw[<-b,<-a]) g
     ·exact .inr a
   ·rw[Ae b,Ay,Ay,C5];constructor
    ·rintro(q|q)
     ·exact .inl q
     ·refine .inr ⟨λi=>?_,q⟩;have n:=less_tot e.1 k b (by simpa using f);rcases q with q|q
      ·exact b (by rw[<-q];exact i)
      ·have:=less_trans _ _ _ n (m _ q);rw[i,less_irr]at this;cases this
    ·rintro(q|⟨g,a⟩)
     ·exact .inl q
     ·exact .inr a
theorem Pj(k x:τ):∀l:PList,SrtP l->SrtP (putR k x l)
 |[],_=>by simp[putR,SrtP]
 |e::r,h=>by
  obtain⟨g,d⟩:=B5.1 h;simp only[putR];by_cases c:lessP e.1 k=true
  ·rw[Ai c];refine B5.2 ⟨λf a=>?_,Pj k x r d⟩;obtain⟨m,j⟩:=f;rcases(Jw k x r d m j).1 a with q|q
   ·rw[q.1];exact c
   ·exact g _ q.2
  ·rw[Ae c];by_cases b:e.1=k
   ·rw[Ai b];exact B5.2 ⟨λf a=>by have:=g f a;rw[b]at this;exact this,d⟩
   ·rw[Ae b];have i:=less_tot e.1 k b (by simpa using c);refine B5.2 ⟨λf a=>?_,h⟩;rcases Ay.1 a with q|q
    ·rw[q];exact i
    ·exact less_trans _ _ _ i (g f q)
theorem Jy(k:τ):∀l:PList,SrtP l->∀c f,(c,f)∈delR k l↔(c≠k/\(c,f)∈l)
 |[],_,c,f=>by simp[delR]
 |e::r,h,c,f=>by
  obtain⟨m,o⟩:=B5.1 h;have p:=Jy k r o c f;simp only[delR];by_cases d:lessP e.1 k=true
  ·have j:e.1≠k:=λa=>by rw[a,less_irr]at d;cases d
   rw[Ai d,Ay,p,Ay];constructor
   ·rintro(q|q)
    ·exact⟨by rw[<-q]at j;exact j, .inl q⟩
    ·exact⟨q.1, .inr q.2⟩
   ·rintro⟨i,b|b⟩
    ·exact .inl b
    ·exact .inr ⟨i,b⟩
  ·rw[Ae d];by_cases a:e.1=k
   ·rw[Ai a,Ay];constructor
    ·intro q;refine⟨λg=>?_, .inr q⟩;have:=m _ q;rw[a,g,less_irr]at this;cases this
    ·rintro⟨i,b|b⟩
     ·exact absurd (by rw[<-a,<-b]) i
     ·exact b
   ·rw[Ae a,Ay];constructor
    ·intro q;refine⟨λg=>?_,q⟩;have n:=less_tot e.1 k a (by simpa using d);rcases q with q|q
     ·exact a (by rw[<-q];exact g)
     ·have:=less_trans _ _ _ n (m _ q);rw[g,less_irr]at this;cases this
    ·exact λq=>q.2
theorem Wu(k:τ):∀l:PList,SrtP l->SrtP (delR k l):=by
 intro l
 induction l with
 |nil=>intro _;simp[delR,SrtP]
 |cons e r g=>
  intro h;obtain⟨i,a⟩:=B5.1 h;simp only[delR];split
  ·refine B5.2 ⟨λf c=>?_,g a⟩;obtain⟨d,b⟩:=f;exact i _ ((Jy k r a d b).1 c).2
  ·split
   ·exact a
   ·exact h
theorem Pk(k x:τ):∀l:PList,(putR k x l).length<=l.length+1
 |[]=>by simp[putR]
 |e::r=>by
  have:=Pk k x r;simp only[putR];split
  ·simp;omega
  ·split<;>simp
end
section
open Tr
variable {w : World}
structure Opx where
 z:Int
 ka:Ω
 kn:Nat
 kc:Nat
 va:Ω
 vn:Nat
 vc:Nat
 k:τ
 x:τ
def Opx.cells(y:Opx):Ξ:=#[ι y.z,σ y.ka y.kn y.kc,σ y.va y.vn y.vc]
def An:Θ:=λ_=>True
structure OAt(w:Γ)(a:Ω)(n:Nat)(xs:List Opx):Prop where
 len:xs.length=n
 row:∀j y,xs[j]?=some y->∃g off,a=some ⟨g,off,none⟩/\w.rangeAt g (off+j*3) y.cells.toList
 k:∀y∈xs,Ag w y.ka y.kn y.kc y.k
 x:∀y∈xs,Ag w y.va y.vn y.vc y.x
theorem Ag.an{a:Ω}{n c:Nat}{bs:τ}(h:Ag w a n c bs):Sk An w a n c bs:=⟨h,λ_ _ _=>trivial⟩
theorem Q9{w':Γ}{g off:Nat}{cs:List Δ}(h:w.rangeAt g off cs)(b:Bl w w'):w'.rangeAt g off cs:=λj v a=>(b.cell (p:=⟨g,off+j,none⟩) (Al (h j v a))).trans (h j v a)
end
end Go.Proofs.YtkdlocloepbmcaaGreat
