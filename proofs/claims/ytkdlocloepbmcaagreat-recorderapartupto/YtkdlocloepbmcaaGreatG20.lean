/- Operations on things: their types asked, their boxes, kids; results. -/
import Derived.Test.YtkdlocloepbmcaaGreatG19
set_option linter.unusedVariables false
set_option linter.unusedSimpArgs false
set_option maxRecDepth 100000
set_option maxHeartbeats 1000000
open Go.Proofs.Tryz Go.RowKit
namespace Go.Proofs.YtkdlocloepbmcaaGreat
namespace Pa
section
open Pt
def bra(vs:Nat->Δ):Ξ:=#[vs 0,vs 1,vs 2,vs 3,vs 4,vs 5,vs 6,vs 7,vs 8,vs 9,vs 10,vs 11,vs 12,vs 13,vs 14,vs 15]
theorem ol_arr{w:Γ}{g:Nat}{vs:Nat->Δ}{s:Δ}{ρ:Φ}{o:Oper}(h:Rw g w (brc vs s) 160)(x:Operand)(c:o.op= .load 158 x)(d:ρ x=π g):(execOp ρ o).run prog w= .ok (.value (γ (bra vs))) w:=by
 refine Em 158 x g 0 [vs 0,vs 1,vs 2,vs 3,vs 4,vs 5,vs 6,vs 7,vs 8,vs 9,vs 10,vs 11,vs 12,vs 13,vs 14,vs 15] _ c d ?_ υ158 rfl (by kernel_rfl);intro j v a;have b:j<16:=(Ar.1 a).1;rw[A6,Aj _ _ _ _ _ _ h,EQ _ _ _ b]
 match j,b,a with
 |0,_,a=>exact a
 |1,_,a=>exact a
 |2,_,a=>exact a
 |3,_,a=>exact a
 |4,_,a=>exact a
 |5,_,a=>exact a
 |6,_,a=>exact a
 |7,_,a=>exact a
 |8,_,a=>exact a
 |9,_,a=>exact a
 |10,_,a=>exact a
 |11,_,a=>exact a
 |12,_,a=>exact a
 |13,_,a=>exact a
 |14,_,a=>exact a
 |15,_,a=>exact a
 |n+16,b,_=>omega
theorem ix_arr(vs:Nat->Δ)(w:Γ):∀j:Nat,j<16->(Instr.index 158 (γ (bra vs)) (ι (j:Int))).run prog w= .ok (vs j) w
 |0,_=>by kernel_rfl
 |1,_=>by kernel_rfl
 |2,_=>by kernel_rfl
 |3,_=>by kernel_rfl
 |4,_=>by kernel_rfl
 |5,_=>by kernel_rfl
 |6,_=>by kernel_rfl
 |7,_=>by kernel_rfl
 |8,_=>by kernel_rfl
 |9,_=>by kernel_rfl
 |10,_=>by kernel_rfl
 |11,_=>by kernel_rfl
 |12,_=>by kernel_rfl
 |13,_=>by kernel_rfl
 |14,_=>by kernel_rfl
 |15,_=>by kernel_rfl
 |n+16,h=>by omega
theorem ol_ixa{ρ:Φ}{w:Γ}{o:Oper}(x y:Operand)(vs:Nat->Δ)(j:Nat)(a:j<16)(d:o.op= .index 158 x y)(c:ρ x=γ (bra vs))(b:ρ y=ι (j:Int)):(execOp ρ o).run prog w= .ok (.value (vs j)) w:=by
 unfold execOp;rw[d];simp only[c,b,AO,ix_arr vs w j a,A4,AV]
theorem ol_nen{w0 w:Γ}{t:Pt}{v:Δ}(h:ThA w0 t v){ρ:Φ}{o:Oper}(i:Nat)(r:TypeId)(a:o.op= .binOp .neq 85 (.tmp i) (.const ν) r)(c:ρ (.tmp i)=v)(b:ρ (.const ν)=ν):(execOp ρ o).run prog w= .ok (.value (β (!t.isNo))) w:=by
 unfold execOp;rw[a];simp only[c,b];cases t with
 |no=>rw[show v=ν from h];kernel_rfl
 |st d=>rw[h.1];kernel_rfl
 |leaf p x=>obtain⟨_,_,_,_,_,_,rfl,_⟩:=h;kernel_rfl
 |ext p t=>obtain⟨_,_,_,_,rfl,_⟩:=h;kernel_rfl
 |br k x=>obtain⟨_,_,_,_,rfl,_⟩:=h;kernel_rfl
theorem Xe{w0 w:Γ}{t:Pt}{v:Δ}(h:ThA w0 t v){ρ:Φ}{o:Oper}(i:Nat)(r:TypeId)(a:o.op= .binOp .eql 85 (.tmp i) (.const ν) r)(c:ρ (.tmp i)=v)(b:ρ (.const ν)=ν):(execOp ρ o).run prog w= .ok (.value (β t.isNo)) w:=by
 unfold execOp;rw[a];simp only[c,b];cases t with
 |no=>rw[show v=ν from h];kernel_rfl
 |st d=>rw[h.1];kernel_rfl
 |leaf p x=>obtain⟨_,_,_,_,_,_,rfl,_⟩:=h;kernel_rfl
 |ext p t=>obtain⟨_,_,_,_,rfl,_⟩:=h;kernel_rfl
 |br k x=>obtain⟨_,_,_,_,rfl,_⟩:=h;kernel_rfl
theorem wrap8{n:Nat}(h:n<16):IntKind.u8.wrap (n:Int)=n:=by unfold IntKind.wrap;simp[IntKind.bits,IntKind.signed];omega
theorem ol_indexK{P:Program}{ρ:Φ}{w:Γ}{o:Oper}{kd:IntKind}(T:TypeId)(x y:Operand)(g off j len sz:Nat)(E:TypeId)(c:o.op= .indexAddr T x y)(k:ρ x=ψ g off)(e:ρ y= .int kd j)(d:j<len)(l:1<len)(h:P.underlying T=some (.array len E))(b:(P.info? E).map (·.size)=some sz):
 (execOp ρ o).run P w= .ok (.value (ψ g (off+j*sz))) w:=by
 have i:(sizeOf E).run P w= .ok sz w:=by
  cases a:P.info? E with
  |none=>simp[a]at b
  |some z=>simp[a]at b;simp[sizeOf,typeInfo,a,b]
 unfold execOp;rw[c];simp only[k,e];have f:(if j*sz=0 then(⟨g,off,none⟩:Addr)else⟨g,off+j*sz,none⟩)=⟨g,off+j*sz,none⟩:=by split<;>simp_all
 simp[Instr.indexAt,Instr.sureAddr,asIntOf,Bm h,i,d,Result.andThen,Addr.add,f]
theorem ol_setC{ρ:Φ}{w:Γ}{o:Oper}(T:TypeId)(x y:Operand)(g j:Nat)(cells:Ξ)(E:TypeId)(v:Δ)(h:Rw g w cells E)(d:o.op= .store T x y)(n:ρ x=ψ g j)(f:ρ y=v)(i:j<cells.size)(k:v.cells=#[v])(e:v.oneCell'=true)(b:(prog.info? T).map (·.size)=some 1):
 (execOp ρ o).run prog w= .ok .skip (w.setCell ⟨g,j,none⟩ v):=by
 have m:w.cell? ⟨g,j,none⟩=some cells[j]:=by rw[Aj _ _ _ _ _ _ h];exact Bw i
 have c:w.frozen? ⟨g,j,none⟩=false:=AN _ _ _ _ _ h;have l:(sizeOf T).run prog w= .ok 1 w:=by
  cases a:prog.info? T with
  |none=>simp[a]at b
  |some z=>simp[a]at b;simp[sizeOf,typeInfo,a,b]
 unfold execOp;rw[d];simp only[n,f,Instr.storeAt,Instr.sureAddr,storeVar,k,AO,AV,A4,l];go_simp;rw[run_store _ _ _ _ _ e];simp[m,c]
theorem _root_.Go.Proofs.YtkdlocloepbmcaaGreat.Rw.lt{g:Nat}{w:Γ}{cells:Ξ}{T:TypeId}(h:Rw g w cells T):g<w.heap.size:=lt_of_get h
theorem _root_.Go.Proofs.YtkdlocloepbmcaaGreat.Rw.past{g g':Nat}{w w':Γ}{cells:Ξ}{T:TypeId}(h:Rw g w cells T)(b:Touch g' w w')(a:g≠g'):Rw g w' cells T:=(b.block g (lt_of_get h) a).trans h
theorem _root_.Go.Proofs.YtkdlocloepbmcaaGreat.Bl.tou{g:Nat}{w0 w w':Γ}(h:Bl w0 w)(b:Touch g w w')(a:w0.heap.size<=g):Bl w0 w':=b.below h a h.size
theorem Nt.rows{g:Nat}{w w':Γ}{cells:Ξ}{T:TypeId}(h:Rw g w cells T)(d:∀(j:Nat)(x:Int),cells[j]?≠some (η x))(c:Touch g w w'):Nt w w':=Nt.touch c λo a=>by
 rw[show w.heap[g]?=_ from h]at a;cases a;rintro⟨j,x,b⟩;exact d j x b
theorem Fy{w:Γ}{k:Nat->Pt}{vs:Nat->Δ}(h:KA w k vs){a:Ω}{n c:Nat}:∀(j:Nat)(x:Int),(brc vs (σ a n c))[j]?≠some (η x):=λj x d=>by
 rcases Zl d with⟨i,b,e⟩|e
 ·exact(h i b).u8 x e.symm
 ·cases e
theorem CV{w:Γ}{k:Nat->Pt}{vs:Nat->Δ}(h:KA w k vs){a:Ω}{n c:Nat}:(brc vs (σ a n c)).all (·.oneCell')=true:=by
 unfold brc;refine Am ?_;intro v b;simp only[Ay,BN,Dn]at b;rcases b with rfl|rfl|rfl|rfl|rfl|rfl|rfl|rfl|rfl|rfl|rfl|rfl|rfl|rfl|rfl|rfl|rfl
 ·exact(h 0 (by omega)).one
 ·exact(h 1 (by omega)).one
 ·exact(h 2 (by omega)).one
 ·exact(h 3 (by omega)).one
 ·exact(h 4 (by omega)).one
 ·exact(h 5 (by omega)).one
 ·exact(h 6 (by omega)).one
 ·exact(h 7 (by omega)).one
 ·exact(h 8 (by omega)).one
 ·exact(h 9 (by omega)).one
 ·exact(h 10 (by omega)).one
 ·exact(h 11 (by omega)).one
 ·exact(h 12 (by omega)).one
 ·exact(h 13 (by omega)).one
 ·exact(h 14 (by omega)).one
 ·exact(h 15 (by omega)).one
 ·rfl
theorem UB{a b:Δ}(d:a.oneCell'=true)(e:b.oneCell'=true):(#[a,b]:Ξ).all (·.oneCell')=true:=Am λv c=>by
 simp only[Ay,BN,Dn]at c;rcases c with rfl|rfl
 ·exact d
 ·exact e
theorem UC{a b c:Δ}(e:a.oneCell'=true)(g:b.oneCell'=true)(f:c.oneCell'=true):(#[a,b,c]:Ξ).all (·.oneCell')=true:=Am λv d=>by
 simp only[Ay,BN,Dn]at d;rcases d with rfl|rfl|rfl
 ·exact e
 ·exact g
 ·exact f
theorem Kc{w:Γ}{t:Pt}{v:Δ}(h:ThA w t v){a b:Δ}(d:∀x,a≠η x)(e:∀x,b≠η x):∀(j:Nat)(x:Int),(#[v,a,b]:Ξ)[j]?≠some (η x):=λj x c=>by
 match j with
 |0=>exact h.u8 x (BJ c)
 |1=>exact d x (BJ c)
 |2=>exact e x (BJ c)
 |n+3=>simp at c
theorem Hj{fn:Func}{p:Tmp}{f:Nat->Δ}{T:TypeId}{d:TypeDesc}(h:fn.results=#[.cell p T])(w:Γ)(g:Nat)(cs:Ξ)(a:f p=π g)(b:Rw g w cs T)(c:prog.underlying T=some d)(hd:(match d with| .struct _| .array _ _=>true|_=>false)=true)(e:(prog.info? T).map (·.size)=some cs.size):(resF f fn.results).run prog w= .ok (γ cs) w:=by
 have:=CB (P:=prog) w g T T _ _ _ b c (by cases d<;>first|rfl|exact hd) e;unfold resF;rw[h];simp[a,this,asAddr]
theorem IP{fn:Func}{p q:Tmp}{f:Nat->Δ}{T:TypeId}{d:TypeDesc}(h:fn.results=#[.cell p T, .tmp q])(w:Γ)(g:Nat)(cs:Ξ)(v:Δ)(a:f p=π g)(e:f q=v)(b:Rw g w cs T)(c:prog.underlying T=some d)(hd:(match d with| .struct _| .array _ _=>true|_=>false)=true)(i:(prog.info? T).map (·.size)=some cs.size):(resF f fn.results).run prog w= .ok (θ #[γ cs,v]) w:=by
 have:=CB (P:=prog) w g T T _ _ _ b c (by cases d<;>first|rfl|exact hd) i;unfold resF;rw[h];simp[a,e,this,asAddr]
theorem Fz{w w':Γ}{g o:Nat}{v:Δ}(h:w.cell? ⟨g,o,none⟩=some v)(a:Λ w w'):w'.cell? ⟨g,o,none⟩=some v:=AS a h
theorem ol_build{ρ:Φ}{w:Γ}{o:Oper}(t:TypeId)(a:Array (Nat×Operand))(d:o.op= .build t a)(b:List (Nat×Δ))(e:(a.map λ(i,x)=>(i,ρ x)).toList=b)(cells:Ξ)(c:prog.built t b=some cells):(execOp ρ o).run prog w= .ok (.value (γ cells)) w:=by
 subst e;have f:=run_build w t (a.map λ(i,x)=>(i,ρ x)) cells (P:=prog) c;unfold execOp;rw[d];simp only[AO,f,A4,AV]
theorem O1{w:Γ}{t:Pt}{u:Δ}(h:ThA w t u)(a:Ω)(n c:Nat):prog.built 167 [(0,σ a n c),(1,u)]=some #[σ a n c,u]:=by
 cases t with
 |no=>rw[show u=ν from h];kernel_rfl
 |st d=>rw[h.1];kernel_rfl
 |leaf p x=>obtain⟨_,_,_,_,_,_,rfl,_⟩:=h;kernel_rfl
 |ext p t=>obtain⟨_,_,_,_,rfl,_⟩:=h;kernel_rfl
 |br k x=>obtain⟨_,_,_,_,rfl,_⟩:=h;kernel_rfl
theorem KU{w:Γ}{t:Pt}{u:Δ}(h:ThA w t u)(l:Int)(b:Bool):prog.built 131 [(0,u),(1,ι l),(2,β b)]=some #[u,ι l,β b]:=by
 cases t with
 |no=>rw[show u=ν from h];kernel_rfl
 |st d=>rw[h.1];kernel_rfl
 |leaf p x=>obtain⟨_,_,_,_,_,_,rfl,_⟩:=h;kernel_rfl
 |ext p t=>obtain⟨_,_,_,_,rfl,_⟩:=h;kernel_rfl
 |br k x=>obtain⟨_,_,_,_,rfl,_⟩:=h;kernel_rfl
theorem Xf{w:Γ}{t:Pt}{u:Δ}(h:ThA w t u):prog.built 131 [(0,u)]=some #[u,ι 0,β false]:=by
 cases t with
 |no=>rw[show u=ν from h];kernel_rfl
 |st d=>rw[h.1];kernel_rfl
 |leaf p x=>obtain⟨_,_,_,_,_,_,rfl,_⟩:=h;kernel_rfl
 |ext p t=>obtain⟨_,_,_,_,rfl,_⟩:=h;kernel_rfl
 |br k x=>obtain⟨_,_,_,_,rfl,_⟩:=h;kernel_rfl
def RVl(w:Γ)(v:Δ):Δ->Γ->Prop:=λu w'=>u=v/\Bl w w'
def RTh(w:Γ)(t:Pt):Δ->Γ->Prop:=λu w'=>ThA w' t u/\Bl w w'
def SpA(w:Γ)(s:Sp)(v:Δ):Prop:=ThA w s.t v
def BrA(w:Γ)(t:Pt)(u:Δ):Prop:=∃k x vs a n c,t=br k x/\u=γ (brc vs (σ a n c))/\KA w k vs/\Sk An w a n c x/\n<=256
def RBr(w:Γ)(t:Pt):Δ->Γ->Prop:=λu w'=>BrA w' t u/\Bl w w'
theorem ED{ds:τ}(h:ds.length=32):(prog.info? 88).map (·.size)=some (B8 ds).size:=by rw[B8_size,h];kernel_rfl
theorem Nr{w:Γ}{a b:Ω}{n c m d:Nat}{p q:τ}(f:Sk An w a n c p)(i:Sk An w b m d q)(j:n<=140737488355328)(g:m<=140737488355328):κ 112 #[σ a n c,σ b m d] w λv w'=>RVl w (ι ((Ni.com p q:Nat):Int)) v w':=
 (Ni.common_any a b n c m d p q w f.ag i.ag j g).mono λe w' h=>⟨_,h.1,rfl,h.2⟩
theorem Zm{w:Γ}:Calls prog 138 #[ν] w λe w'=>∃v',e=ω v'/\RVl w (β false) v' w':=by
 have b:Bl w w:=Bl.refl w;refine Ck func138 11<|Hn 12 (brc (λ_=>ν) (ε)) 160 ?_;intro w1 c a d;refine Hy 0 (og f138 1 6) c (brc (λ_=>ν) (ε)) (λ_=>AM 160 _ _ _ _ _ 160 rfl (by kernel_rfl) (by kernel_rfl) d (by kernel_rfl) (by kernel_rfl) (CV (KA.none w))) ?_;intro g f;clear d;replace a:=a.put f;have h:w.heap.size<=c:=by have:=b.size;have:=a.hg;omega
 replace b:=b.go a.below;have i:Rw c g (brc (λ_=>ν) (ε)) 160:=a.row;refine Hr 10 (β false) ?_;exact⟨_,rfl,rfl,b⟩
theorem Zn{w:Γ}{d:τ}(hd:d.length=32):Calls prog 138 #[.iface 88 (γ (B8 d))] w λe w'=>∃v',e=ω v'/\RVl w (β false) v' w':=by
 have b:Bl w w:=Bl.refl w;refine Ck func138 11<|Hn 12 (brc (λ_=>ν) (ε)) 160 ?_;intro w1 c a f;refine Hy 0 (og f138 1 6) c (brc (λ_=>ν) (ε)) (λ_=>AM 160 _ _ _ _ _ 160 rfl (by kernel_rfl) (by kernel_rfl) f (by kernel_rfl) (by kernel_rfl) (CV (KA.none w))) ?_;intro h g;clear f;replace a:=a.put g;have i:w.heap.size<=c:=by have:=b.size;have:=a.hg;omega
 replace b:=b.go a.below;have j:Rw c h (brc (λ_=>ν) (ε)) 160:=a.row;refine Hr 10 (β false) ?_;exact⟨_,rfl,rfl,b⟩
theorem UD{w:Γ}{a b:Ω}{n c m d:Nat}{p x:τ}(j:Sk An w a n c p)(k:Sk An w b m d x)(s:m<=256)(t:n<=140737488351232):Calls prog 138 #[.iface 157 (γ #[σ a n c,σ b m d])] w λe w'=>∃v',e=ω v'/\RVl w (β false) v' w':=by
 have g:Bl w w:=Bl.refl w;refine Ck func138 11<|Hn 12 (brc (λ_=>ν) (ε)) 160 ?_;intro w1 h f i;refine Hy 0 (og f138 1 6) h (brc (λ_=>ν) (ε)) (λ_=>AM 160 _ _ _ _ _ 160 rfl (by kernel_rfl) (by kernel_rfl) i (by kernel_rfl) (by kernel_rfl) (CV (KA.none w))) ?_;intro o l;clear i;replace f:=f.put l;have q:w.heap.size<=h:=by have:=g.size;have:=f.hg;omega
 replace g:=g.go f.below;replace j:=j.go f.below;replace k:=k.go f.below;have r:Rw h o (brc (λ_=>ν) (ε)) 160:=f.row;refine Hr 10 (β false) ?_;exact⟨_,rfl,rfl,g⟩
theorem Xg{w:Γ}{a:Ω}{n c:Nat}{u:Δ}{p:τ}{t:Pt}(h:Sk An w a n c p)(o:n<=140737488351232)(i:ThA w t u):Calls prog 138 #[.iface 167 (γ #[σ a n c,u])] w λe w'=>∃v',e=ω v'/\RVl w (β false) v' w':=by
 have d:Bl w w:=Bl.refl w;refine Ck func138 11<|Hn 12 (brc (λ_=>ν) (ε)) 160 ?_;intro w1 f b g;refine Hy 0 (og f138 1 6) f (brc (λ_=>ν) (ε)) (λ_=>AM 160 _ _ _ _ _ 160 rfl (by kernel_rfl) (by kernel_rfl) g (by kernel_rfl) (by kernel_rfl) (CV (KA.none w))) ?_;intro k j;clear g;replace b:=b.put j;have l:w.heap.size<=f:=by have:=d.size;have:=b.hg;omega
 replace d:=d.go b.below;replace h:=h.go b.below;replace i:=i.go b.below;have m:Rw f k (brc (λ_=>ν) (ε)) 160:=b.row;refine Hr 10 (β false) ?_;exact⟨_,rfl,rfl,d⟩
theorem Zo{w:Γ}{vs:Nat->Δ}{k:Nat->Pt}{a:Ω}{n c:Nat}{x:τ}(f:KA w k vs)(i:Sk An w a n c x)(p:n<=256):Calls prog 138 #[.iface 160 (γ (brc vs (σ a n c)))] w λe w'=>∃v',e=ω v'/\RVl w (β true) v' w':=by
 have d:Bl w w:=Bl.refl w;refine Ck func138 11<|Hn 12 (brc (λ_=>ν) (ε)) 160 ?_;intro w1 g b h;refine Hy 0 (og f138 1 6) g (brc vs (σ a n c)) (λ_=>AM 160 _ _ _ _ _ 160 rfl (by kernel_rfl) (by kernel_rfl) h (by kernel_rfl) (by kernel_rfl) (CV f)) ?_;intro l j;clear h;replace b:=b.put j;have m:w.heap.size<=g:=by have:=d.size;have:=b.hg;omega
 replace d:=d.go b.below;replace f:=f.go b.below;replace i:=i.go b.below;have o:Rw g l (brc vs (σ a n c)) 160:=b.row;refine Hr 10 (β true) ?_;exact⟨_,rfl,rfl,d⟩
theorem PW{w:Γ}{t:Pt}{v:Δ}(h:ThA w t v):κ 138 #[v] w λv w'=>RVl w (β t.isBr) v w':=by
 cases t with
 |no=>obtain rfl:v=ν:=h;exact Zm
 |st d=>obtain⟨rfl,hd,_⟩:=h;exact Zn hd
 |leaf p x=>obtain⟨a,n,c,b,m,d,rfl,f,g,i,e⟩:=h;exact UD f g i e
 |ext p t=>obtain⟨a,n,c,u,rfl,f,e,l⟩:=h;exact Xg f e l
 |br k x=>obtain⟨vs,a,n,c,rfl,j,g,e⟩:=h;exact Zo j g e
def FitS(t:Pt)(m:Nat):Prop:=∀{w:Γ}{v:Δ}{l:Nat},ThA w t v->l+m<=100000/\m<=1000->κ 139 #[v,ι (l:Int)] w λv w'=>RVl w (β (fitP t l)) v w'
theorem SJ{w:Γ}{l:Nat}(b:l<=100000):Calls prog 139 #[ν,ι (l:Int)] w λe w'=>∃v',e=ω v'/\RVl w (β (fitP no l)) v' w':=by
 have a:Bl w w:=Bl.refl w;refine Ck func139 52<|Hr 45 (β true) ?_;refine⟨_,rfl,Ao Value.bool ?_,a⟩;rfl
theorem SK{w:Γ}{l:Nat}{d:τ}(hd:d.length=32)(b:l<=100000):Calls prog 139 #[.iface 88 (γ (B8 d)),ι (l:Int)] w λe w'=>∃v',e=ω v'/\RVl w (β (fitP (st d) l)) v' w':=by
 have a:Bl w w:=Bl.refl w;refine Ck func139 52<|Hr 45 (β true) ?_;refine⟨_,rfl,Ao Value.bool ?_,a⟩;rfl
theorem Ns{w:Γ}{l:Nat}{a b:Ω}{n c m d:Nat}{p x:τ}(h:Sk An w a n c p)(k:Sk An w b m d x)(u:m<=256)(y:n<=140737488351232)(v:l<=100000):Calls prog 139 #[.iface 157 (γ #[σ a n c,σ b m d]),ι (l:Int)] w λe w'=>∃v',e=ω v'/\RVl w (β (fitP (leaf p x) l)) v' w':=by
 have t:=h.len;have g:Bl w w:=Bl.refl w;refine Ck func139 52<|Hn 22 (#[ε,ε]) 157 ?_;intro w1 i f j;refine Hy 0 (og f139 3 1) i (#[σ a n c,σ b m d]) (λ_=>AM 157 _ _ _ _ _ 157 rfl (by kernel_rfl) (by kernel_rfl) j (by kernel_rfl) (by kernel_rfl) (by kernel_rfl)) ?_;intro r q;clear j;replace f:=f.put q;have s:w.heap.size<=i:=by have:=g.size;have:=f.hg;omega
 replace g:=g.go f.below;replace h:=h.go f.below;replace k:=k.go f.below;have o:Rw i r (#[σ a n c,σ b m d]) 157:=f.row;refine Hl 6 o 0 32 (σ a n c)<|Hw 1 (ι (IntKind.i64.wrap ((l:Int)+(n:Int)))) (ι ((l+n:Nat):Int)) (Ao (Value.int .i64) ((Cy (by omega) (by omega)).trans (by omega)))<|Hp 0 (β (decide (((l+n:Nat):Int)<=(64:Int))))<|Hp 0 (β (decide (((l+n:Nat):Int)<=(64:Int))))<|Hr 5 (β (decide (((l+n:Nat):Int)<=(64:Int)))) ?_;refine⟨_,rfl,Ao Value.bool ?_,g⟩;show decide _=decide _;rw[CT];omega
theorem Xh{w:Γ}{l:Nat}{a:Ω}{n c:Nat}{u:Δ}{p:τ}{t:Pt}(h:Sk An w a n c p)(z:n<=140737488351232)(f:ThA w t u){mm:Nat}(y:l+mm<=99999/\mm<=999)(s:FitS t mm):Calls prog 139 #[.iface 167 (γ #[σ a n c,u]),ι (l:Int)] w λe w'=>∃v',e=ω v'/\RVl w (β (fitP (ext p t) l)) v' w':=by
 have k:=h.len;have d:Bl w w:=Bl.refl w;refine Ck func139 52<|Hn 30 (#[ε,ν]) 167 ?_;intro w1 i b j;refine Hy 0 (og f139 6 1) i (#[σ a n c,u]) (λ_=>AM 167 _ _ _ _ _ 167 rfl (by kernel_rfl) (by kernel_rfl) j (by kernel_rfl) (by kernel_rfl) (UB rfl f.one)) ?_;intro o r;clear j;replace b:=b.put r;have v:w.heap.size<=i:=by have:=d.size;have:=b.hg;omega
 replace d:=d.go b.below;replace h:=h.go b.below;replace f:=f.go b.below;have m:Rw i o (#[σ a n c,u]) 167:=b.row;refine Hl 6 m 0 32 (σ a n c)<|Hw 1 (ι (IntKind.i64.wrap ((l:Int)+(n:Int)))) (ι ((l+n:Nat):Int)) (Ao (Value.int .i64) ((Cy (by omega) (by omega)).trans (by omega)))<|Hp 6 (β (decide (((l+n:Nat):Int)<=(64:Int))))<|Hp 0 (β (decide (((l+n:Nat):Int)<=(64:Int)))) ?_;cases g:(decide (((l+n:Nat):Int)<=(64:Int)))with
 |true=>
  refine Hl 1 m 1 85 (u)<|Hc 1 (R:=RVl o (β (fitP t (l+n)))) (s f (by have:=B6 g;omega)) ?_;rintro _ x⟨rfl,q⟩;refine Hp 0 (β (fitP t (l+n)))<|Hp 0 (β (fitP t (l+n)))<|Hr 5 (β (fitP t (l+n))) ?_;replace d:=d.go q;refine⟨_,rfl,Ao Value.bool ?_,d⟩;show _=(decide _&&fitP t (l+p.length));rw[k,AF (show l+n<=64 by have:=B6 g;omega),Du]
 |false=>
  refine Hr 11 (β false) ?_;refine⟨_,rfl,Ao Value.bool ?_,d⟩;show _=(decide _&&fitP t (l+p.length));rw[k,Bi (show¬l+n<=64 by have:=CU g;omega),Bool.false_and]
theorem Zp{w:Γ}{l:Nat}{vs:Nat->Δ}{k:Nat->Pt}{a:Ω}{n c:Nat}{x:τ}(d:KA w k vs)(r:Sk An w a n c x)(G:n<=256){mm:Nat}(D:l+mm<=99999/\mm<=999)(A:∀i,i<16->FitS (k i) mm):Calls prog 139 #[.iface 160 (γ (brc vs (σ a n c))),ι (l:Int)] w λe w'=>∃v',e=ω v'/\RVl w (β (fitP (br k x) l)) v' w':=by
 have b:Bl w w:=Bl.refl w;refine Ck func139 52<|Hn 38 (brc (λ_=>ν) (ε)) 160 ?_;intro w1 p f q;refine Hy 0 (og f139 10 1) p (brc vs (σ a n c)) (λ_=>AM 160 _ _ _ _ _ 160 rfl (by kernel_rfl) (by kernel_rfl) q (by kernel_rfl) (by kernel_rfl) (CV d)) ?_;intro B y;clear q;replace f:=f.put y;have C:w.heap.size<=p:=by have:=b.size;have:=f.hg;omega
 replace b:=b.go f.below;replace d:=d.go f.below;replace r:=r.go f.below;have z:Rw p B (brc vs (σ a n c)) 160:=f.row;refine Hx 6 (og f139 11 1) (γ (bra vs)) (λ_=>ol_arr z _ rfl (by kernel_rfl)) ?_;refine Ho (X:=Nat) 4 (λi=>[(41,ι (i:Int)),(40,γ (bra vs)),(1,ι (l:Int)),(4,β false)]) (λi v=>Bl w v/\KA v k vs/\i<=16/\∀j,j<i->fitP (k j) (l+1)=true) (λi=>16-i) 0 ⟨b,d,by omega,λj h=>by omega⟩ ?_;clear b d;rintro i v⟨b,d,F,s⟩ E u;by_cases o:i<16
 ·skip
  have t:=d i o;refine Ht 2 ((i:Int)<(16:Int))<|Hx 10 (og f139 13 0) (vs i) (λ_=>ol_ixa _ _ vs i (by omega) rfl (by kernel_rfl) (by kernel_rfl))<|Hw 7 (ι (IntKind.i64.wrap ((l:Int)+(1:Int)))) (ι ((l+1:Nat):Int)) (Ao (Value.int .i64) ((Cy (by omega) (by omega)).trans (by omega)))<|Hc 0 (R:=RVl v (β (fitP (k i) (l+1)))) (A i o t (by omega)) ?_;rintro _ H⟨rfl,m⟩;refine Hp 0 (β (!(fitP (k i) (l+1)))) ?_;cases g:(!(fitP (k i) (l+1)))with
  |true=>
   refine Hr 16 (β false) ?_;replace b:=b.go m;refine⟨_,rfl,Ao Value.bool ?_,b⟩;rw[DL]at g;show false=((List.range 16).all (λi=>fitP (k i) (l+1))&&decide (l<=64));rw[show(List.range 16).all (λi=>fitP (k i) (l+1))=false from List.all_eq_false.2 ⟨i,Da.2 o,by rw[g];exact Ed⟩,Bool.false_and]
  |false=>
   refine Hw 7 (ι (IntKind.i64.wrap ((i:Int)+(1:Int)))) (ι ((i+1:Nat):Int)) (Ao (Value.int .i64) ((Cy (by omega) (by omega)).trans (by omega))) ?_;rw[Ef]at g;replace b:=b.go m;replace d:=d.go m;exact u 2 (i+1) ⟨b,d,by omega,λj h=>(Nat.lt_or_eq_of_le (Nat.lt_succ_iff.1 h)).elim (s j) (λe=>by rw[e];exact g)⟩ (by show 16-(i+1)<16-i;omega) (λ_=>by kernel_rfl)
 obtain rfl:i=16:=by omega
 refine Hf 2 (((16:Nat):Int)<(16:Int))<|Hp 12 (β (decide ((l:Int)<=(64:Int))))<|Hp 0 (β (decide ((l:Int)<=(64:Int))))<|Hr 5 (β (decide ((l:Int)<=(64:Int)))) ?_;refine⟨_,rfl,Ao Value.bool ?_,b⟩;show _=((List.range 16).all (λi=>fitP (k i) (l+1))&&decide (l<=64));rw[show(List.range 16).all (λi=>fitP (k i) (l+1))=true from Dw.2 λj h=>s j (by have:=Da.1 h;omega),Du,CT];omega
theorem PX:∀(m:Nat)(t:Pt),Wn m t->FitS t m:=by
 intro m
 induction m with
 |zero=>
  intro t f w v l h s;cases t with
  |no=>obtain rfl:v=ν:=h;exact SJ (by omega)
  |st d=>obtain⟨rfl,hd,_⟩:=h;exact SK hd (by omega)
  |leaf p x=>obtain⟨a,n,c,b,m,d,rfl,g,j,o,e⟩:=h;exact Ns g j o e (by omega)
  |ext p t=>exact f.elim
  |br k x=>exact f.elim
 |succ mm q=>
  intro t f w v l h s;cases t with
  |no=>obtain rfl:v=ν:=h;exact SJ (by omega)
  |st d=>obtain⟨rfl,hd,_⟩:=h;exact SK hd (by omega)
  |leaf p x=>obtain⟨a,n,c,b,m,d,rfl,g,j,o,e⟩:=h;exact Ns g j o e (by omega)
  |ext p t=>obtain⟨a,n,c,u,rfl,g,e,y⟩:=h;exact Xh g e y (mm:=mm) (by omega) (q t f.2.2.2)
  |br k x=>obtain⟨vs,a,n,c,rfl,r,j,e⟩:=h;exact Zp r j e (mm:=mm) (by omega) (λi z=>q (k i) (f i z))
theorem Xi{w:Γ}{vs:Nat->Δ}{k:Nat->Pt}{a b e:Ω}{n c m d m2 h:Nat}{x v:τ}(f:KA w k vs)(G:Sk An w a n c x)(H:n<=256)(D:Sk An w b m d [])(t:Sk An w e m2 h v)(F:m2<=256):Calls prog 113 #[γ (brc vs (σ a n c)),σ b m d,σ e m2 h] w λe w'=>∃v',e=ω v'/\RBr w (Pt.plus k x [] v) v' w':=by
 have C:=D.len;obtain rfl:0=m:=C;have j:Bl w w:=Bl.refl w;refine Ck func113 23<|Hn 2 (brc vs (σ a n c)) 160 ?_;intro w1 r q g;have A:w.heap.size<=r:=by have:=j.size;have:=q.hg;omega
 refine Hn 0 (brc (λ_=>ν) (ε)) 160 ?_;intro J o l i;have E:r<o:=by have:=g.lt;have:=l.hg;omega
 replace j:=j.go q.below;have z:w.heap.size<=o:=by have:=j.size;have:=l.hg;omega
 replace g:=g.go l.below;refine Ha 14 (og f113 2 2) r (16) (σ e m2 h) (λ_=>ol_setC 32 _ _ r _ _ 160 _ g rfl (by kernel_rfl) (by kernel_rfl) (by show 16<17;omega) rfl rfl (by kernel_rfl)) ?_;intro I p;replace f:=(f.go q.below).go l.below;have y:=Nt.rows g (Fy f) p.touch;replace g:=g.set (cells':=(brc vs (σ e m2 h))) p (by kernel_rfl);refine Hx 4 (og f113 4 0) (γ (brc vs (σ e m2 h))) (λ_=>BW 160 _ _ _ _ _ _ rfl (by kernel_rfl) g υ160 rfl (by kernel_rfl)) ?_;replace f:=f.nt y;replace i:=i.past p.touch (by omega);refine Hy 0 (og f113 4 1) o (brc vs (σ e m2 h)) (λ_=>AM 160 _ _ _ _ _ 160 rfl (by kernel_rfl) (by kernel_rfl) i (by kernel_rfl) (by kernel_rfl) (CV f)) ?_;intro B s;have u:=Nt.rows i (Fy (KA.none w)) s.touch;replace i:Rw o B (brc vs (σ e m2 h)) 160:=s.row i;refine JI 3 (γ (brc vs (σ e m2 h))) (λ_=>Hj rfl _ o _ (by kernel_rfl) i υ160 rfl (by kernel_rfl)) ?_;replace t:=(((t.go q.below).go l.below).nt y).nt u;replace j:=((j.go l.below).tou p.touch A).tou s.touch z;replace f:=f.nt u;exact⟨_,rfl,⟨_,_,_,_,_,_,rfl,rfl,f,t,by omega⟩,j⟩
theorem UE{w:Γ}{vs:Nat->Δ}{k:Nat->Pt}{a b e:Ω}{n c m d m2 f:Nat}{x v:τ}{i:Int}{r:τ}(y:KA w k vs)(J:Sk An w a n c x)(hn:n<=256)(B:Sk An w b m d (i::r))(t:Sk An w e m2 f v)(T:m2<=256)(W:0<=i/\i<16)(Z:m<=1000):Calls prog 113 #[γ (brc vs (σ a n c)),σ b m d,σ e m2 f] w λe w'=>∃v',e=ω v'/\RBr w (Pt.plus k x (i::r) v) v' w':=by
 have V:=B.len;rw[AE]at V;obtain⟨E,F,rfl,p,S⟩:=B.head;have u:Bl w w:=Bl.refl w;refine Ck func113 23 ?_;have M:i.toNat<16:=by omega
 have Y:=p;refine Hn 2 (brc vs (σ a n c)) 160 ?_;intro w1 z s o;have Q:w.heap.size<=z:=by have:=u.size;have:=s.hg;omega
 replace p:=Fz p s.below;refine Hn 0 (brc (λ_=>ν) (ε)) 160 ?_;intro N A j q;have X:z<A:=by have:=o.lt;have:=j.hg;omega
 replace u:=u.go s.below;have O:w.heap.size<=A:=by have:=u.size;have:=j.hg;omega
 replace p:=Fz p j.below;refine Hz 7 (m:Int) (0:Int) ?_;have R:(N).drew.cell? ⟨E,F+0*1,none⟩=some (η i):=p;refine Fq 3 (λ_=>True) (trivial) ?_;replace p:=Fz p (Ac _ _).drew;replace t:=((t.go s.below).go j.below).go (Ac _ _).drew;refine Dx [0] 1 (og f113 3 1) (ψ E (F+0*1)) (λv t _=>AW 32 _ _ E F 0 m d 1 5 rfl (by kernel_rfl) (by kernel_rfl) S υ32 (by kernel_rfl)) trivial ?_;replace B:=((B.go s.below).go j.below).go (Ac _ _).drew;obtain⟨l,g,h,P,L⟩:=B.cutFrom 1 (by omega);refine Dx [3] 4 (og f113 3 4) (σ l g h) (λv t=>(λ_=>P _ _ _ _ _ _ rfl (by kernel_rfl) (by kernel_rfl) rfl)) trivial<|Dx [5] 6 (og f113 3 6) (γ #[σ l g h,σ e m2 f]) (λv t=>(λ_=>by kernel_rfl)) trivial<|Dy [7,8] [2] trivial ?_;refine Yx 2 (og f113 3 2) (η i) (λ_=>AY 5 _ ⟨E,F+0*1,none⟩ _ _ rfl (by kernel_rfl) R υ5 rfl) trivial ?_ yn;refine Dx [] 9 (og f113 3 9) (ψ z (0+i.toNat*1)) (λv t=>(λ_=>ol_indexK (kd:= .u8) 158 _ _ z 0 i.toNat 16 1 85 rfl (by kernel_rfl) (Eq.trans (b:=η i) (by kernel_rfl) (Ao (Value.int .u8) (DQ W.1).symm)) M (by omega) υ158 (by kernel_rfl))) trivial<|Dz [10] ?_;have H:ThA N.drew (leaf r v) (.iface 157 (γ #[σ l g h,σ e m2 f])):=⟨_,_,_,_,_,_,rfl,L,t,T,by have:=L.len;rw[A3,AE]at this;omega⟩;replace o:=(o.go j.below).go (Ac _ _).drew;refine Ya 10 (og f113 3 10) z (0+i.toNat*1) (.iface 157 (γ #[σ l g h,σ e m2 f])) (λ_=>ol_setC 85 _ _ z _ _ 160 _ o rfl (by kernel_rfl) (by kernel_rfl) (by show 0+i.toNat*1<17;omega) rfl rfl (by kernel_rfl)) (λ_ _=>trivial) ?_ yn;intro aa C;replace y:=((y.go s.below).go j.below).go (Ac _ _).drew;have G:=Nt.rows o (Fy y) C.touch;replace y:=y.nt G;replace H:=H.nt G;have D:=y.put (i:=i.toNat) H;refine Do ?_;replace o:=o.set (cells':=(brc (updv vs i.toNat (.iface 157 (γ #[σ l g h,σ e m2 f]))) (σ a n c))) C (by rw[A6,BE];exact FT _ _ _ _ M);refine Hx 3 (og f113 4 0) (γ (brc (updv vs i.toNat (.iface 157 (γ #[σ l g h,σ e m2 f]))) (σ a n c))) (λ_=>BW 160 _ _ _ _ _ _ rfl (by kernel_rfl) o υ160 rfl (by kernel_rfl)) ?_;replace q:=(q.go (Ac _ _).drew).past C.touch (by omega);refine Hy 0 (og f113 4 1) A (brc (updv vs i.toNat (.iface 157 (γ #[σ l g h,σ e m2 f]))) (σ a n c)) (λ_=>AM 160 _ _ _ _ _ 160 rfl (by kernel_rfl) (by kernel_rfl) q (by kernel_rfl) (by kernel_rfl) (CV D)) ?_;intro U I;have K:=Nt.rows q (Fy (KA.none w)) I.touch;replace q:Rw A U (brc (updv vs i.toNat (.iface 157 (γ #[σ l g h,σ e m2 f]))) (σ a n c)) 160:=I.row q;refine JI 3 (γ (brc (updv vs i.toNat (.iface 157 (γ #[σ l g h,σ e m2 f]))) (σ a n c))) (λ_=>Hj rfl _ A _ (by kernel_rfl) q υ160 rfl (by kernel_rfl)) ?_;replace J:=((((J.go s.below).go j.below).go (Ac _ _).drew).nt G).nt K;replace u:=(((u.go j.below).go (Ac _ _).drew).tou C.touch Q).tou I.touch O;replace D:=D.nt K;exact⟨_,rfl,⟨_,_,_,_,_,_,rfl,rfl,D,J,by omega⟩,u⟩
theorem JD{w:Γ}{t:Pt}{u:Δ}{b e:Ω}{m d m2 g:Nat}{q v:τ}{k:Nat->Pt}{x:τ}(z:BrA w (br k x) u)(j:Sk An w b m d q)(A:nibs q)(s:m<=1000)(l:Sk An w e m2 g v)(f:m2<=256):Calls prog 113 #[u,σ b m d,σ e m2 g] w λe w'=>∃v',e=ω v'/\RBr w (Pt.plus k x q v) v' w':=by
 obtain⟨C,B,vs,a,n,c,y,rfl,h,p,o⟩:=z;cases y;cases q with
 |nil=>exact Xi h p o j l f
 |cons i r=>exact UE h p o j l f (A i (by simp)) s
theorem behind_any{w:Γ}{a:Ω}{n c l:Nat}{u:Δ}{p:τ}{t:Pt}(h:Sk An w a n c p)(A:n<=1000)(d:ThA w t u)(z:l<=n):Calls prog 114 #[γ #[σ a n c,u],ι (l:Int)] w λe w'=>∃v',e=ω v'/\RTh w (bhd p t l) v' w':=by
 have y:=h.len;have f:Bl w w:=Bl.refl w;refine Ck func114 20<|Hn 2 (#[σ a n c,u]) 167 ?_;intro w1 r g b;have x:w.heap.size<=r:=by have:=f.size;have:=g.hg;omega
 refine Hl 8 b 0 32 (σ a n c)<|Hp 1 (β ((l:Int)==(n:Int))) ?_;cases q:((l:Int)==(n:Int))with
 |true=>
  refine Hl 6 b 1 85 (u)<|Hr 5 (u) ?_;replace f:=f.go g.below;replace d:=d.go g.below;exact⟨_,rfl,by rw[bhd,Ai (by have:=eq_of_beq q;omega)];exact d,f⟩
 |false=>
  refine Fq 6 (λv=>Rw r v #[σ a n c,u] 167) (b) ?_;replace b:=b.go (Ac _ _).drew;refine Dl [0] 1 (λv i=>i) 0 32 (σ a n c) b ?_;replace h:=(h.go g.below).go (Ac _ _).drew;obtain⟨m,j,k,s,o⟩:=h.cutFrom l (by have:=h.len;omega);refine Dx [2] 3 (og f114 3 3) (σ m j k) (λv i=>(λ_=>s _ _ _ _ _ _ rfl (by kernel_rfl) (by kernel_rfl) rfl)) b<|Dl [4] 5 (λv i=>i) 1 85 (u) b ?_;replace d:=(d.go g.below).go (Ac _ _).drew;refine Dx [] 6 (og f114 3 6) (γ #[σ m j k,u]) (λv i=>(λ_=>ol_build 167 _ rfl [(0,σ m j k),(1,u)] (by kernel_rfl) _ (O1 d _ _ _))) b<|Dq [7,8] b<|Hr 2 (.iface 167 (γ #[σ m j k,u])) ?_;replace f:=(f.go g.below).go (Ac _ _).drew;exact⟨_,rfl,by rw[bhd,Ae (by have:=Bo.1 q;omega)];exact⟨_,_,_,_,rfl,o,by have:=o.len;rw[A3]at this;omega,d⟩,f⟩
theorem Zq(t:Pt):und [] t=t:=rfl
theorem XaL{q:τ}(h:¬q=[]):und q no=ext q no:=by simp[und,h]
theorem XaM{q d:τ}(h:¬q=[]):und q (st d)=ext q (st d):=by simp[und,h]
theorem Xj{q p x:τ}(h:¬q=[]):und q (leaf p x)=leaf (q++p) x:=by simp[und,h]
theorem Zr{q p:τ}{t:Pt}(h:¬q=[]):und q (ext p t)=ext (q++p) t:=by simp[und,h]
theorem XaN{q x:τ}{k:Nat->Pt}(h:¬q=[]):und q (br k x)=ext q (br k x):=by simp[und,h]
theorem UF{w:Γ}{t:Pt}{u:Δ}{e:Ω}{a:Nat}(b:ThA w t u):Calls prog 110 #[u,σ e 0 a] w λe w'=>∃v',e=ω v'/\RTh w t v' w':=by
 have c:Bl w w:=Bl.refl w;refine Ck func110 40<|Hr 22 u ?_;exact⟨_,rfl,b,c⟩
theorem Xk{w:Γ}{e:Ω}{m2 a:Nat}{q:τ}(c:Sk An w e m2 a q)(h:0<m2)(g:m2<=1000):Calls prog 110 #[ν,σ e m2 a] w λe w'=>∃v',e=ω v'/\RTh w (und q no) v' w':=by
 have b:=c.len;have d:¬q=[]:=λe=>by rw[e]at b;simp at b;omega
 rw[XaL d];have f:Bl w w:=Bl.refl w;refine Ck func110 40<|Hz 10 (m2:Int) (0:Int)<|Hr 41 (.iface 167 (γ #[σ e m2 a,ν])) ?_;exact⟨_,rfl,⟨_,_,_,_,rfl,c,by omega,(show ThA _ no ν from rfl)⟩,f⟩
theorem Xl{w:Γ}{d:τ}{e:Ω}{m2 a:Nat}{q:τ}(hd:d.length=32)(g:isB d)(c:Sk An w e m2 a q)(j:0<m2)(i:m2<=1000):Calls prog 110 #[.iface 88 (γ (B8 d)),σ e m2 a] w λe w'=>∃v',e=ω v'/\RTh w (und q (st d)) v' w':=by
 have b:=c.len;have f:¬q=[]:=λe=>by rw[e]at b;simp at b;omega
 rw[XaM f];have h:Bl w w:=Bl.refl w;refine Ck func110 40<|Hz 10 (m2:Int) (0:Int)<|Hr 41 (.iface 167 (γ #[σ e m2 a, .iface 88 (γ (B8 d))])) ?_;exact⟨_,rfl,⟨_,_,_,_,rfl,c,by omega,⟨rfl,hd,g⟩⟩,h⟩
theorem Rp{w:Γ}{a b:Ω}{n c m d:Nat}{p x:τ}{e:Ω}{m2 z:Nat}{q:τ}(i:Sk An w a n c p)(o:Sk An w b m d x)(M:m<=256)(U:n<=1000)(j:Sk An w e m2 z q)(T:0<m2)(Q:m2<=1000):Calls prog 110 #[.iface 157 (γ #[σ a n c,σ b m d]),σ e m2 z] w λe w'=>∃v',e=ω v'/\RTh w (und q (leaf p x)) v' w':=by
 have F:=j.len;have K:¬q=[]:=λe=>by rw[e]at F;simp at F;omega
 rw[Xj K];have k:Bl w w:=Bl.refl w;refine Ck func110 40<|Hz 10 (m2:Int) (0:Int)<|Hn 22 (#[ε,ε]) 157 ?_;intro w1 t h B;refine Hy 0 (og f110 5 1) t (#[σ a n c,σ b m d]) (λ_=>AM 157 _ _ _ _ _ 157 rfl (by kernel_rfl) (by kernel_rfl) B (by kernel_rfl) (by kernel_rfl) (by kernel_rfl)) ?_;intro N L;clear B;replace h:=h.put L;have O:w.heap.size<=t:=by have:=k.size;have:=h.hg;omega
 replace k:=k.go h.below;replace i:=i.go h.below;replace o:=o.go h.below;replace j:=j.go h.below;have f:Rw t N (#[σ a n c,σ b m d]) 157:=h.row;refine Fq 3 (λv=>Rw t v (#[σ a n c,σ b m d]) 157) (f) ?_;replace f:=f.go (Ac _ _).drew;refine Dl [0,1] 2 (λv y=>y) 0 32 (σ a n c) f<|Dl [5] 6 (λv y=>y) 1 32 (σ b m d) f<|Dz [3] ?_;refine ZQ 3 #[σ e m2 z,σ a n c] 32 2 (λw' g A=>f.go A.below) ?_ yn;intro I S l J;refine Dz [4] ?_;replace i:=(i.go (Ac _ _).drew).go l.below;replace j:=(j.go (Ac _ _).drew).go l.below;replace f:=f.go l.below;refine Yc 4 (R:=λu w'=>∃H G c2,u=σ H G c2/\Sk (λb=>(I).heap.size<=b) w' H G c2 (q++p)/\Bl I w') (Gy j i J (by omega) (by omega)) (λu w' A=>f.go (A.choose_spec.choose_spec.choose_spec.2.2)) ?_ yn;rintro _ P⟨E,C,D,rfl,s,r⟩;replace f:=f.go r;refine Dx [] 7 (og f110 6 7) (γ #[σ E C D,σ b m d]) (λv y=>(λ_=>by kernel_rfl)) f<|Dq [8,9] f<|Hr 4 (.iface 157 (γ #[σ E C D,σ b m d])) ?_;replace k:=((k.go (Ac _ _).drew).go l.below).go r;replace o:=((o.go (Ac _ _).drew).go l.below).go r;replace s:=s.any;replace i:=i.go r;exact⟨_,rfl,⟨_,_,_,_,_,_,rfl,s,o,M,by have:=s.len;have:=i.len;rw[Af]at*;omega⟩,k⟩
theorem UG{w:Γ}{a:Ω}{n c:Nat}{u:Δ}{p:τ}{t:Pt}{e:Ω}{m2 A:Nat}{q:τ}(h:Sk An w a n c p)(Q:n<=1000)(i:ThA w t u)(j:Sk An w e m2 A q)(P:0<m2)(N:m2<=1000):Calls prog 110 #[.iface 167 (γ #[σ a n c,u]),σ e m2 A] w λe w'=>∃v',e=ω v'/\RTh w (und q (ext p t)) v' w':=by
 have D:=j.len;have I:¬q=[]:=λe=>by rw[e]at D;simp at D;omega
 rw[Zr I];have k:Bl w w:=Bl.refl w;refine Ck func110 40<|Hz 10 (m2:Int) (0:Int)<|Hn 30 (#[ε,ν]) 167 ?_;intro w1 r f C;refine Hy 0 (og f110 8 1) r (#[σ a n c,u]) (λ_=>AM 167 _ _ _ _ _ 167 rfl (by kernel_rfl) (by kernel_rfl) C (by kernel_rfl) (by kernel_rfl) (UB rfl i.one)) ?_;intro K J;clear C;replace f:=f.put J;have L:w.heap.size<=r:=by have:=k.size;have:=f.hg;omega
 replace k:=k.go f.below;replace h:=h.go f.below;replace i:=i.go f.below;replace j:=j.go f.below;have d:Rw r K (#[σ a n c,u]) 167:=f.row;refine Fq 3 (λv=>Rw r v (#[σ a n c,u]) 167) (d) ?_;replace d:=d.go (Ac _ _).drew;refine Dl [0,1] 2 (λv s=>s) 0 32 (σ a n c) d<|Dl [5] 6 (λv s=>s) 1 85 (u) d<|Dz [3] ?_;refine ZQ 3 #[σ e m2 A,σ a n c] 32 2 (λw' g B=>d.go B.below) ?_ yn;intro G O l H;refine Dz [4] ?_;replace h:=(h.go (Ac _ _).drew).go l.below;replace j:=(j.go (Ac _ _).drew).go l.below;replace d:=d.go l.below;refine Yc 4 (R:=λu w'=>∃F E c2,u=σ F E c2/\Sk (λb=>(G).heap.size<=b) w' F E c2 (q++p)/\Bl G w') (Gy j h H (by omega) (by omega)) (λu w' B=>d.go (B.choose_spec.choose_spec.choose_spec.2.2)) ?_ yn;rintro _ M⟨z,x,y,rfl,o,m⟩;replace i:=((i.go (Ac _ _).drew).go l.below).go m;replace d:=d.go m;refine Dx [] 7 (og f110 9 7) (γ #[σ z x y,u]) (λv s=>(λ_=>ol_build 167 _ rfl [(0,σ z x y),(1,u)] (by kernel_rfl) _ (O1 i _ _ _))) d<|Dq [8,9] d<|Hr 4 (.iface 167 (γ #[σ z x y,u])) ?_;replace k:=((k.go (Ac _ _).drew).go l.below).go m;replace o:=o.any;replace h:=h.go m;exact⟨_,rfl,⟨_,_,_,_,rfl,o,by have:=o.len;have:=h.len;rw[Af]at*;omega,i⟩,k⟩
theorem under_br{w:Γ}{vs:Nat->Δ}{k:Nat->Pt}{a:Ω}{n c:Nat}{x:τ}{e:Ω}{m2 b:Nat}{q:τ}(h:KA w k vs)(l:Sk An w a n c x)(j:n<=256)(f:Sk An w e m2 b q)(o:0<m2)(m:m2<=1000):Calls prog 110 #[.iface 160 (γ (brc vs (σ a n c))),σ e m2 b] w λe w'=>∃v',e=ω v'/\RTh w (und q (br k x)) v' w':=by
 have d:=f.len;have g:¬q=[]:=λe=>by rw[e]at d;simp at d;omega
 rw[XaN g];have i:Bl w w:=Bl.refl w;refine Ck func110 40<|Hz 10 (m2:Int) (0:Int)<|Hr 41 (.iface 167 (γ #[σ e m2 b, .iface 160 (γ (brc vs (σ a n c)))])) ?_;exact⟨_,rfl,⟨_,_,_,_,rfl,f,by omega,⟨_,_,_,_,rfl,h,l,j⟩⟩,i⟩
theorem under_any{w:Γ}{t:Pt}{u:Δ}{e:Ω}{m2 s l:Nat}{q:τ}(h:ThA w t u)(r:Wg t l)(f:Sk An w e m2 s q)(g:m2<=1000):Calls prog 110 #[u,σ e m2 s] w λe w'=>∃v',e=ω v'/\RTh w (und q t) v' w':=by
 by_cases B:m2=0
 ·subst B;have v:q=[]:=Aw f.len;rw[v,Zq];exact UF h
 cases t with
 |no=>obtain rfl:u=ν:=h;exact Xk f (by omega) g
 |st d=>obtain⟨rfl,hd,y⟩:=h;exact Xl hd y f (by omega) g
 |leaf p x=>obtain⟨a,n,c,b,m,d,rfl,i,j,z,o⟩:=h;exact Rp i j z (by have:=i.len;have:=r.1;omega) f (by omega) g
 |ext p t=>obtain⟨a,n,c,u,rfl,i,o,C⟩:=h;exact UG i (by have:=i.len;have:=r.1;omega) C f (by omega) g
 |br k x=>obtain⟨vs,a,n,c,rfl,A,j,o⟩:=h;exact under_br A j o f (by omega) g
theorem Zs{w:Γ}{e d:Ω}{m2 b a c l:Nat}{q y:τ}(i:Wg no l)(f:Sk An w e m2 b q)(j:l+q.length<=64)(g:nibs q)(k:Sk An w d a c y)(h:a<=256):Calls prog 80 #[ν,σ e m2 b,σ d a c] w λe w'=>∃v',e=ω v'/\RTh w (wit no q y) v' w':=by
 have o:=f.len;have n:=IN (v:=y) i j g;unfold wit;simp only;have m:Bl w w:=Bl.refl w;refine Ck func80 88<|Hr 49 (.iface 157 (γ #[σ e m2 b,σ d a c])) ?_;exact⟨_,rfl,⟨_,_,_,_,_,_,rfl,f,k,h,by omega⟩,m⟩
theorem Zt{w:Γ}{d:τ}{e f:Ω}{m2 b a c l:Nat}{q y:τ}(hd:d.length=32)(j:Wg (st d) l)(g:Sk An w e m2 b q)(k:l+q.length<=64)(h:nibs q)(m:Sk An w f a c y)(i:a<=256):Calls prog 80 #[.iface 88 (γ (B8 d)),σ e m2 b,σ f a c] w λe w'=>∃v',e=ω v'/\RTh w (wit (st d) q y) v' w':=by
 have p:=g.len;have o:=IN (v:=y) j k h;unfold wit;simp only;have n:Bl w w:=Bl.refl w;refine Ck func80 88<|Hr 49 (.iface 157 (γ #[σ e m2 b,σ f a c])) ?_;exact⟨_,rfl,⟨_,_,_,_,_,_,rfl,g,m,i,by omega⟩,n⟩
theorem UH{w:Γ}{a b:Ω}{n c m d:Nat}{p x:τ}{e M:Ω}{m2 L E N l:Nat}{q y:τ}(h:Sk An w a n c p)(A:Sk An w b m d x)(hm:m<=256)(hn:n<=140737488351232)(F:Wg (leaf p x) l)(g:Sk An w e m2 L q)(hl:l+q.length<=64)(J:nibs q)(o:Sk An w M E N y)(V:E<=256):Calls prog 80 #[.iface 157 (γ #[σ a n c,σ b m d]),σ e m2 L,σ M E N] w λe w'=>∃v',e=ω v'/\RTh w (wit (leaf p x) q y) v' w':=by
 have bb:=g.len;have a7:=IN (v:=y) F hl J;have a6:=h.len;have bj:=Ni.com_le p q;have bf:=F.1;unfold wit;simp only;have k:Bl w w:=Bl.refl w;refine Ck func80 88<|Hn 22 (#[ε,ε]) 157 ?_;intro w1 G j U;refine Hy 0 (og f80 3 1) G (#[σ a n c,σ b m d]) (λ_=>AM 157 _ _ _ _ _ 157 rfl (by kernel_rfl) (by kernel_rfl) U (by kernel_rfl) (by kernel_rfl) (by kernel_rfl)) ?_;intro W aj;clear U;replace j:=j.put aj;have a5:w.heap.size<=G:=by have:=k.size;have:=j.hg;omega
 replace k:=k.go j.below;replace h:=h.go j.below;replace A:=A.go j.below;replace g:=g.go j.below;replace o:=o.go j.below;have f:Rw G W (#[σ a n c,σ b m d]) 157:=j.row;refine Hl 6 f 0 32 (σ a n c)<|Hc 1 (R:=λu w'=>u=β (decide (p=q))/\Bl (W) w') (EX h g) ?_;rintro _ w9⟨rfl,i⟩;cases P:(decide (p=q))with
 |true=>
  rw[Ai (B6 P)];refine Hr 16 (.iface 157 (γ #[σ e m2 L,σ M E N])) ?_;replace k:=k.go i;replace g:=g.go i;replace o:=o.go i;exact⟨_,rfl,⟨_,_,_,_,_,_,rfl,g,o,V,by omega⟩,k⟩
 |false=>
  rw[Ae (CU P)];replace f:=f.go i;refine Hl 8 f 0 32 (σ a n c) ?_;replace h:=h.go i;replace g:=g.go i;refine Hc 1 (R:=RVl w9 (ι ((Ni.com p q:Nat):Int))) (Nr h g (by omega) (by omega)) ?_;rintro _ a1⟨rfl,s⟩;replace f:=f.go s;refine Fq 4 (λv=>Rw G v (#[σ a n c,σ b m d]) 157) (f) ?_;replace f:=f.go (Ac _ _).drew;refine Dx [] 0 (og f80 7 0) (γ (brc (λ_=>ν) (ε))) (λv r=>(λ_=>by kernel_rfl)) f<|Dl [1] 2 (λv r=>r) 0 32 (σ a n c) f ?_;replace h:=(h.go s).go (Ac _ _).drew;obtain⟨al,am,aq,X,O⟩:=h.cutFrom (Ni.com p q) (by have:=h.len;omega);refine Dx [3] 4 (og f80 7 4) (σ al am aq) (λv r=>(λ_=>X _ _ _ _ _ _ rfl (by kernel_rfl) (by kernel_rfl) rfl)) f<|Dl [5] 6 (λv r=>r) 1 32 (σ b m d) f ?_;replace g:=(g.go s).go (Ac _ _).drew;obtain⟨a0,aw,az,Y,D⟩:=g.cutFrom (Ni.com p q) (by have:=g.len;omega);refine Dx [8,9] 10 (og f80 7 10) (σ a0 aw az) (λv r=>(λ_=>Y _ _ _ _ _ _ rfl (by kernel_rfl) (by kernel_rfl) rfl)) f ?_;obtain⟨ap,a2,av,ad,C⟩:=g.cutTo (Ni.com p q) (by have:=g.len;omega);refine Dx [11,14,15] 16 (og f80 7 16) (σ ap a2 av) (λv r=>(λ_=>ad _ _ _ _ _ _ rfl (by kernel_rfl) (by kernel_rfl) rfl)) f<|Dz [7] ?_;replace A:=((A.go i).go s).go (Ac _ _).drew;refine Yc 7 (R:=RBr a1.drew (Pt.plus nk ([]) (p.drop (Ni.com p q)) x)) (JD (t:= .no) ⟨_,_,_,_,_,_,rfl,rfl,(KA.none _),(Sk.nil _ _),(by omega)⟩ O (Db F.2 _) (by have:=O.len;rw[A3]at this;omega) A hm) (λu w' B=>f.go B.2) ?_ yn;rintro _ ao⟨⟨ak,ax,a3,bg,ba,bh,T,rfl,ac,aa,ah⟩,z⟩;refine Dz [12] ?_;replace o:=(((o.go i).go s).go (Ac _ _).drew).go z;replace f:=f.go z;replace D:=D.go z;refine Yc 12 (R:=RBr ao (Pt.plus ak ax (q.drop (Ni.com p q)) y)) (JD (t:= .no) ⟨_,_,_,_,_,_,rfl,rfl,ac,aa,ah⟩ D (Db J _) (by have:=D.len;rw[A3]at this;omega) o V) (λu w' B=>f.go B.2) ?_ yn;rintro _ ar⟨⟨K,I,a4,bi,a8,bc,S,rfl,ab,ae,af⟩,H⟩;replace f:=f.go H;refine Dy [13] [17] f ?_;have ai:Wg (br K I) (l+Ni.com p q):=by rw[<-S];have:=PQ (l:=l+Ni.com p q) (v:=x) (v':=y) (x:=[]) (SF _) (q:=p.drop (Ni.com p q)) (by rw[A3];omega) (Db F.2 _) (q':=q.drop (Ni.com p q)) (by rw[A3];omega) (Db J _);rw[T]at this;exact this
  replace C:=(C.go z).go H;refine Yc 17 (R:=RTh ar (und (q.take (Ni.com p q)) (br K I))) (under_any (t:=br K I) (l:=l+Ni.com p q) ⟨_,_,_,_,rfl,ab,ae,af⟩ ai C ((by have:=C.len;rw[Ap]at this;omega))) (λu w' B=>f.go B.2) ?_ yn;rintro ay a9⟨Z,Q⟩;replace f:=f.go Q;refine Dq [18] f<|Hr 4 (ay) ?_;rw[T];have e9:=S;simp only[plusT]at*;rw[e9];replace k:=(((((k.go i).go s).go (Ac _ _).drew).go z).go H).go Q;exact⟨_,rfl,Z,k⟩
theorem Xm{w:Γ}{a:Ω}{n c:Nat}{u:Δ}{p:τ}{t:Pt}{e e2:Ω}{m2 d2 T d3 l:Nat}{q y:τ}(h:Sk An w a n c p)(hn:n<=140737488351232)(C:ThA w t u)(D:Wg (ext p t) l)(m:Sk An w e m2 d2 q)(hl:l+q.length<=64)(N:nibs q)(H:Sk An w e2 T d3 y)(ax:T<=256)(a7:Ni.com p q≠p.length):Calls prog 80 #[.iface 167 (γ #[σ a n c,u]),σ e m2 d2,σ e2 T d3] w λe w'=>∃v',e=ω v'/\RTh w (wit (ext p t) q y) v' w':=by
 have bb:=m.len;have a9:=IN (v:=y) D hl N;have a8:=h.len;have bh:=Ni.com_le p q;have bf:=D.1;unfold wit;simp only;have x:Bl w w:=Bl.refl w;refine Ck func80 88 ?_;have Y:Ni.com p q<n:=by omega
 refine Hn 30 (#[ε,ν]) 167 ?_;intro w1 G r Z;refine Hy 0 (og f80 9 1) G (#[σ a n c,u]) (λ_=>AM 167 _ _ _ _ _ 167 rfl (by kernel_rfl) (by kernel_rfl) Z (by kernel_rfl) (by kernel_rfl) (UB rfl C.one)) ?_;intro w5 ap;clear Z;replace r:=r.put ap;have a5:w.heap.size<=G:=by have:=x.size;have:=r.hg;omega
 replace x:=x.go r.below;replace h:=h.go r.below;replace C:=C.go r.below;replace m:=m.go r.below;replace H:=H.go r.below;have f:Rw G w5 (#[σ a n c,u]) 167:=r.row;refine Hl 5 f 0 32 (σ a n c)<|Hc 1 (R:=RVl w5 (ι ((Ni.com p q:Nat):Int))) (Nr h m (by omega) (by omega)) ?_;rintro _ w9⟨rfl,B⟩;replace h:=h.go B;have ai:∀{gp s:Nat},a=some ⟨gp,s,none⟩->gp<(w9).heap.size:=λe=>by obtain⟨g0,o0,e0,_,_,am⟩:=ag_head h.ag (by omega);rw[e]at e0;cases e0;exact Al (am 0 (by omega))
 refine Hn 5 (brc (λ_=>ν) (ε)) 160 ?_;intro al z o d;replace f:=f.go B;have a3:G<z:=by have:=f.lt;have:=o.hg;omega
 replace x:=x.go B;have ab:w.heap.size<=z:=by have:=x.size;have:=o.hg;omega
 replace h:=h.go o.below;obtain⟨gp,s,rfl,_,_,az⟩:=ag_head h.ag (by omega);have g:=az (Ni.com p q) Y;have X:=D.2.1 (p.getD (Ni.com p q) 0) (by rw[List.getD,Ad (by omega)];exact Bh _);obtain⟨i,aw⟩:∃i,p.getD (Ni.com p q) 0=i:=⟨_,rfl⟩;rw[aw]at g X⊢;have aa:i.toNat<16:=by omega
 have a4:gp<z:=by have:gp<_:=ai rfl;have:=o.hg;omega
 replace f:=f.go o.below;refine Fq 3 (λv=>Rw G v (#[σ (ζ gp s) n c,u]) 167/\v.cell? ⟨gp,s+Ni.com p q,none⟩=some (η i)) (⟨f,g⟩) ?_;replace g:=Fz g (Ac _ _).drew;replace f:=f.go (Ac _ _).drew;refine Dl [0] 1 (λv j=>j.1) 0 32 (σ (ζ gp s) n c) ⟨f,g⟩<|Dx [2] 3 (og f80 12 3) (ψ gp (s+Ni.com p q*1)) (λv j _=>AW 32 _ _ gp s (Ni.com p q) n c 1 5 rfl (by kernel_rfl) (by kernel_rfl) Y υ32 (by kernel_rfl)) ⟨f,g⟩<|Dx [] 4 (og f80 12 4) (η i) (λv j _=>AY 5 _ ⟨gp,s+Ni.com p q*1,none⟩ _ _ rfl (by kernel_rfl) (by rw[BE];exact j.2) υ5 rfl) ⟨f,g⟩<|Dx [] 5 (og f80 12 5) (γ (#[σ (ζ gp s) n c,u])) (λv j _=>BW 167 _ _ _ _ _ _ rfl (by kernel_rfl) j.1 υ167 rfl (by kernel_rfl)) ⟨f,g⟩<|Dx [6] 7 (og f80 12 7) (ι ((Ni.com p q+1:Nat):Int)) (λv j=>(λ_=>E1 (v:=ι (IntKind.i64.wrap (((Ni.com p q:Nat):Int)+(1:Int)))) (by kernel_rfl) (Ao (Value.int .i64) ((Cy (by omega) (by omega)).trans (by omega))))) ⟨f,g⟩<|Dy [9] [8] ⟨f,g⟩ ?_;replace C:=((C.go B).go o.below).go (Ac _ _).drew;replace h:=h.go (Ac _ _).drew;refine Yc 8 (R:=RTh al.drew (bhd p t (Ni.com p q+1))) (behind_any h (by omega) C (by omega)) (λu w' E=>⟨f.go E.2,Fz g E.2⟩) ?_ yn;rintro J bc⟨F,A⟩;replace g:=Fz g A;replace f:=f.go A;refine Dx [] 10 (og f80 12 10) (ψ z (0+i.toNat*1)) (λv j=>(λ_=>ol_indexK (kd:= .u8) 158 _ _ z 0 i.toNat 16 1 85 rfl (by kernel_rfl) (Eq.trans (b:=η i) (by kernel_rfl) (Ao (Value.int .u8) (DQ X.1).symm)) aa (by omega) υ158 (by kernel_rfl))) ⟨f,g⟩<|Dz [11] ?_;replace d:=(d.go (Ac _ _).drew).go A;refine Ya 11 (og f80 12 11) z (0+i.toNat*1) (J) (λ_=>ol_setC 85 _ _ z _ _ 160 _ d rfl (by kernel_rfl) (by kernel_rfl) (by show 0+i.toNat*1<17;omega) F.cells F.one (by kernel_rfl)) (λw' hs=>⟨f.past hs.touch (by omega),(Av (hs.other (k:=gp) (by omega))).trans g⟩) ?_ yn;intro S L;have K:=Nt.rows d (Fy (KA.none w)) L.touch;replace F:=F.nt K;have O:KA S (Pt.upd nk i.toNat (bhd p t (Ni.com p q+1))) _:=(KA.none S).put (i:=i.toNat) F;refine Do ?_;replace d:=d.set (cells':=(brc (updv (λ_=>ν) i.toNat J) (ε))) L (by rw[A6,BE];exact FT _ _ _ _ aa);refine Fq 2 (λv=>Rw z v (brc (updv (λ_=>ν) i.toNat J) (ε)) 160) (d) ?_;replace d:=d.go (Ac _ _).drew;refine Dx [] 0 (og f80 13 0) (γ (brc (updv (λ_=>ν) i.toNat J) (ε))) (λv j _=>BW 160 _ _ _ _ _ _ rfl (by kernel_rfl) j υ160 rfl (by kernel_rfl)) d ?_;replace m:=(((((m.go B).go o.below).go (Ac _ _).drew).go A).nt K).go (Ac _ _).drew;obtain⟨av,ar,a0,ad,V⟩:=m.cutFrom (Ni.com p q) (by have:=m.len;omega);refine Dx [1,2] 3 (og f80 13 3) (σ av ar a0) (λv j=>(λ_=>ad _ _ _ _ _ _ rfl (by kernel_rfl) (by kernel_rfl) rfl)) d ?_;obtain⟨a2,ay,ak,aj,I⟩:=m.cutTo (Ni.com p q) (by have:=m.len;omega);refine Dx [4,7,8] 9 (og f80 13 9) (σ a2 ay ak) (λv j=>(λ_=>aj _ _ _ _ _ _ rfl (by kernel_rfl) (by kernel_rfl) rfl)) d<|Dz [5] ?_;replace H:=(((((H.go B).go o.below).go (Ac _ _).drew).go A).nt K).go (Ac _ _).drew;replace O:=O.go (Ac _ _).drew;refine Yc 5 (R:=RBr S.drew (Pt.plus (Pt.upd nk i.toNat (bhd p t (Ni.com p q+1))) ([]) (q.drop (Ni.com p q)) y)) (JD (t:= .no) ⟨_,_,_,_,_,_,rfl,rfl,O,(Sk.nil _ _),(by omega)⟩ V (Db N _) (by have:=V.len;rw[A3]at this;omega) H ax) (λu w' E=>d.go E.2) ?_ yn;rintro _ a1⟨⟨Q,P,a6,ba,bg,c37,W,rfl,ae,ac,af⟩,M⟩;replace d:=d.go M;refine Dy [6] [10] d ?_;have ao:Wg (br Q P) (l+Ni.com p q):=by rw[<-W];exact JB (Gf (SF _) (by have:=Xb (n:=Ni.com p q+1) D.2.2.2 D.1 D.2.1 (by omega);rw[show l+Ni.com p q+1=l+(Ni.com p q+1)by omega];exact this)) (by rw[A3];omega) (Db N _)
 replace I:=I.go M;refine Yc 10 (R:=RTh a1 (und (q.take (Ni.com p q)) (br Q P))) (under_any (t:=br Q P) (l:=l+Ni.com p q) ⟨_,_,_,_,rfl,ae,ac,af⟩ ao I ((by have:=I.len;rw[Ap]at this;omega))) (λu w' E=>d.go E.2) ?_ yn;rintro aq bi⟨ah,U⟩;replace d:=d.go U;refine Dq [11] d<|Hr 4 (aq) ?_;rw[W];replace x:=((((((x.go o.below).go (Ac _ _).drew).go A).tou L.touch ab).go (Ac _ _).drew).go M).go U;exact⟨_,rfl,ah,x⟩
theorem Zu{w:Γ}{vs:Nat->Δ}{k:Nat->Pt}{a:Ω}{n c:Nat}{x:τ}{e u:Ω}{m2 r h s l:Nat}{q y:τ}(g:KA w k vs)(m:Sk An w a n c x)(O:n<=256)(M:Wg (br k x) l)(f:Sk An w e m2 r q)(N:l+q.length<=64)(o:nibs q)(j:Sk An w u h s y)(H:h<=256):Calls prog 80 #[.iface 160 (γ (brc vs (σ a n c))),σ e m2 r,σ u h s] w λe w'=>∃v',e=ω v'/\RTh w (wit (br k x) q y) v' w':=by
 have U:=f.len;have Q:=IN (v:=y) M N o;unfold wit;simp only;have d:Bl w w:=Bl.refl w;refine Ck func80 88<|Hn 38 (brc (λ_=>ν) (ε)) 160 ?_;intro w1 i b p;refine Hy 0 (og f80 15 1) i (brc vs (σ a n c)) (λ_=>AM 160 _ _ _ _ _ 160 rfl (by kernel_rfl) (by kernel_rfl) p (by kernel_rfl) (by kernel_rfl) (CV g)) ?_;intro z G;clear p;replace b:=b.put G;have P:w.heap.size<=i:=by have:=d.size;have:=b.hg;omega
 replace d:=d.go b.below;replace g:=g.go b.below;replace m:=m.go b.below;replace f:=f.go b.below;replace j:=j.go b.below;have J:Rw i z (brc vs (σ a n c)) 160:=b.row;refine Hx 4 (og f80 16 0) (γ (brc vs (σ a n c))) (λ_=>BW 160 _ _ _ _ _ _ rfl (by kernel_rfl) J υ160 rfl (by kernel_rfl))<|Hc 2 (R:=RBr z (Pt.plus k x q y)) (JD (t:= .no) ⟨_,_,_,_,_,_,rfl,rfl,g,m,O⟩ f o (by have:=f.len;omega) j H) ?_;rintro _ T⟨⟨V,S,C,L,K,I,E,rfl,F,A,D⟩,B⟩;refine Hr 7 (.iface 160 (γ (brc C (σ L K I)))) ?_;rw[E];replace d:=d.go B;exact⟨_,rfl,⟨_,_,_,_,rfl,F,A,D⟩,d⟩
theorem PY{w:Γ}{t:Pt}{u:Δ}{e D:Ω}{m2 B v C l:Nat}{q y:τ}(h:ThA w t u)(j:Wg t l)(i:Sk An w e m2 B q)(o:l+q.length<=64)(f:nibs q)(r:Sk An w D v C y)(g:v<=256)(H:∀p c,t=ext p c->q.take p.length≠p):Calls prog 80 #[u,σ e m2 B,σ D v C] w λe w'=>∃v',e=ω v'/\RTh w (wit t q y) v' w':=by
 cases t with
 |no=>obtain rfl:u=ν:=h;exact Zs j i o f r g
 |st d=>obtain⟨rfl,hd,I⟩:=h;exact Zt hd j i o f r g
 |leaf p x=>obtain⟨a,n,c,b,m,d,rfl,z,A,G,s⟩:=h;exact UH z A G s j i o f r g
 |ext p t=>obtain⟨a,n,c,u,rfl,z,s,E⟩:=h;exact Xm z s E j i o f r g (λe=>H p t rfl (PS e))
 |br k x=>obtain⟨vs,a,n,c,rfl,F,A,s⟩:=h;exact Zu F A s j i o f r g
def RNx(w:Γ)(r:Option Sp):Δ->Γ->Prop:=λu w'=>(match r with
 |none=>u=θ #[γ #[ν,ι 0,β false],β false]
 |some s=>∃v,u=θ #[γ #[v,ι ((s.l:Nat):Int),β s.c],β true]/\ThA w' s.t v)/\Bl w w'
def RSv(w:Γ)(b:τ):Δ->Γ->Prop:=λu w'=>(∃a n c,u=σ a n c/\Sk An w' a n c b/\n<=256)/\Bl w w'
structure TU(gU:Nat)(w v:Γ):Prop where
 t:Touch gU w v
 n:Nt w v
section
variable {gU g : Nat} {w v v' : World}
theorem TU.trans{b:Γ}(h:TU gU w v)(a:TU gU v b):TU gU w b:=⟨h.t.trans a.t,h.n.trans a.n⟩
theorem TU.go(h:TU gU w v)(a:Λ v v'):TU gU w v':=⟨h.t.trans (Touch.of_below a),h.n.trans (Nt.below a)⟩
theorem TU.of(a:Bl w v):TU gU w v:=⟨Touch.of_below a,Nt.below a⟩
theorem TU.size(h:TU gU w v):w.heap.size<=v.heap.size:=h.t.size
theorem TU.tou(h:TU gU w v)(a:Touch g v v')(e:w.heap.size<=g)(d:Nt v v'):TU gU w v':=
 ⟨⟨a.os.trans h.t.os,a.tape.trans h.t.tape,a.output.trans h.t.output,Au h.t.size a.size,λi b c=>(a.block i (BQ b h.t.size) (by omega)).trans (h.t.block i b c)⟩,h.n.trans d⟩
end
def RLk(w:Γ)(g gK gU:Nat)(t0:Pt)(kn:Kn)(us:List τ)(r:Option Pt):Δ->Γ->Prop:=λu w'=>PAt w' g gK gU t0 kn us/\(match r with
 |none=>u=θ #[ν,β false]
 |some t=>∃v,u=θ #[v,β true]/\ThA w' t v)/\TU gU w w'
abbrev RNm:=RLk
def lkU(kn:Kn)(s:Sp)(us:List τ):List τ:=match s.t with
 |st d=>match lookP kn s with
  |none=>us
  |some _=>useP d us
 |_=>us
theorem kids_le(k:Nat->Pt):∀n,kidsN k n<=n
 |0=>Ab _
 |n+1=>by unfold kidsN;have:=kids_le k n;split<;>omega
theorem Zv{w:Γ}{l:Nat}{cb:Bool}{e:Ω}{m2 j:Nat}{q:τ}(g:Sk An w e m2 j q)(A:l<=m2)(y:m2<=1000):Calls prog 96 #[γ #[ν,ι (l:Int),β cb],σ e m2 j] w λe w'=>∃v',e=ω v'/\RNx w none v' w':=by
 have z:=g.len;have a:Bl w w:=Bl.refl w;refine Ck func96 48<|Hn 2 (#[ν,ι (l:Int),β cb]) 131 ?_;intro w1 k i b;have x:w.heap.size<=k:=by have:=a.size;have:=i.hg;omega
 refine Hn 0 (#[ν,ι 0,β false]) 131 ?_;intro B f c d;have t:k<f:=by have:=b.lt;have:=c.hg;omega
 replace a:=a.go i.below;have n:w.heap.size<=f:=by have:=a.size;have:=c.hg;omega
 replace b:=b.go c.below;refine Hl 7 b 1 3 (ι (l:Int)) ?_;replace g:=(g.go i.below).go c.below;obtain⟨s,o,r,m,v⟩:=g.cutFrom l (by omega);refine Hx 0 (og f96 1 3) (σ s o r) (λ_=>m _ _ _ _ _ _ rfl (by kernel_rfl) (by kernel_rfl) rfl)<|Hl 7 b 0 85 (ν)<|Hy 25 (og f96 11 1) f (#[ν,ι 0,β false]) (λ_=>AM 131 _ _ _ _ _ 131 rfl (by kernel_rfl) (by kernel_rfl) d (by kernel_rfl) (by kernel_rfl) (by kernel_rfl)) ?_;intro p h;have u:=Nt.rows d (Kc (show ThA w .no ν from rfl) (λ_ e=>by cases e) (λ_ e=>by cases e)) h.touch;replace d:Rw f p (#[ν,ι 0,β false]) 131:=h.row d;refine JI 4 (θ #[γ (#[ν,ι 0,β false]),β false]) (λ_=>IP rfl _ f _ _ (by kernel_rfl) (by kernel_rfl) d υ131 rfl (by kernel_rfl)) ?_;replace a:=(a.go c.below).tou h.touch n;exact⟨_,rfl,rfl,a⟩
theorem Zw{w:Γ}{d:τ}{l:Nat}{cb:Bool}{e:Ω}{m2 k:Nat}{q:τ}(hd:d.length=32)(h:Sk An w e m2 k q)(B:l<=m2)(z:m2<=1000):Calls prog 96 #[γ #[.iface 88 (γ (B8 d)),ι (l:Int),β cb],σ e m2 k] w λe w'=>∃v',e=ω v'/\RNx w none v' w':=by
 have A:=h.len;have a:Bl w w:=Bl.refl w;refine Ck func96 48<|Hn 2 (#[.iface 88 (γ (B8 d)),ι (l:Int),β cb]) 131 ?_;intro w1 m j b;have y:w.heap.size<=m:=by have:=a.size;have:=j.hg;omega
 refine Hn 0 (#[ν,ι 0,β false]) 131 ?_;intro C g c f;have u:m<g:=by have:=b.lt;have:=c.hg;omega
 replace a:=a.go j.below;have o:w.heap.size<=g:=by have:=a.size;have:=c.hg;omega
 replace b:=b.go c.below;refine Hl 7 b 1 3 (ι (l:Int)) ?_;replace h:=(h.go j.below).go c.below;obtain⟨t,p,s,n,x⟩:=h.cutFrom l (by omega);refine Hx 0 (og f96 1 3) (σ t p s) (λ_=>n _ _ _ _ _ _ rfl (by kernel_rfl) (by kernel_rfl) rfl)<|Hl 7 b 0 85 (.iface 88 (γ (B8 d)))<|Hy 25 (og f96 11 1) g (#[ν,ι 0,β false]) (λ_=>AM 131 _ _ _ _ _ 131 rfl (by kernel_rfl) (by kernel_rfl) f (by kernel_rfl) (by kernel_rfl) (by kernel_rfl)) ?_;intro r i;have v:=Nt.rows f (Kc (show ThA w .no ν from rfl) (λ_ e=>by cases e) (λ_ e=>by cases e)) i.touch;replace f:Rw g r (#[ν,ι 0,β false]) 131:=i.row f;refine JI 4 (θ #[γ (#[ν,ι 0,β false]),β false]) (λ_=>IP rfl _ g _ _ (by kernel_rfl) (by kernel_rfl) f υ131 rfl (by kernel_rfl)) ?_;replace a:=(a.go c.below).tou i.touch o;exact⟨_,rfl,rfl,a⟩
theorem UI{w:Γ}{a b:Ω}{n c m d:Nat}{p x:τ}{l:Nat}{cb:Bool}{e:Ω}{m2 s:Nat}{q:τ}(B:Sk An w a n c p)(L:Sk An w b m d x)(N:m<=256)(M:n<=140737488351232)(k:Sk An w e m2 s q)(K:l<=m2)(I:m2<=1000):Calls prog 96 #[γ #[.iface 157 (γ #[σ a n c,σ b m d]),ι (l:Int),β cb],σ e m2 s] w λe w'=>∃v',e=ω v'/\RNx w none v' w':=by
 have J:=k.len;have H:=B.len;have f:Bl w w:=Bl.refl w;refine Ck func96 48<|Hn 2 (#[.iface 157 (γ #[σ a n c,σ b m d]),ι (l:Int),β cb]) 131 ?_;intro w1 t r g;have F:w.heap.size<=t:=by have:=f.size;have:=r.hg;omega
 refine Hn 0 (#[ν,ι 0,β false]) 131 ?_;intro O j h i;have D:t<j:=by have:=g.lt;have:=h.hg;omega
 replace f:=f.go r.below;have v:w.heap.size<=j:=by have:=f.size;have:=h.hg;omega
 replace g:=g.go h.below;refine Hl 7 g 1 3 (ι (l:Int)) ?_;replace k:=(k.go r.below).go h.below;obtain⟨C,y,A,u,G⟩:=k.cutFrom l (by omega);refine Hx 0 (og f96 1 3) (σ C y A) (λ_=>u _ _ _ _ _ _ rfl (by kernel_rfl) (by kernel_rfl) rfl)<|Hl 7 g 0 85 (.iface 157 (γ #[σ a n c,σ b m d]))<|Hy 25 (og f96 11 1) j (#[ν,ι 0,β false]) (λ_=>AM 131 _ _ _ _ _ 131 rfl (by kernel_rfl) (by kernel_rfl) i (by kernel_rfl) (by kernel_rfl) (by kernel_rfl)) ?_;intro z o;have E:=Nt.rows i (Kc (show ThA w .no ν from rfl) (λ_ e=>by cases e) (λ_ e=>by cases e)) o.touch;replace i:Rw j z (#[ν,ι 0,β false]) 131:=o.row i;refine JI 4 (θ #[γ (#[ν,ι 0,β false]),β false]) (λ_=>IP rfl _ j _ _ (by kernel_rfl) (by kernel_rfl) i υ131 rfl (by kernel_rfl)) ?_;replace f:=(f.go h.below).tou o.touch v;exact⟨_,rfl,rfl,f⟩
theorem Xn{w:Γ}{a:Ω}{n c:Nat}{u:Δ}{p:τ}{t:Pt}{l:Nat}{cb:Bool}{e:Ω}{m2 F:Nat}{q:τ}(o:Sk An w a n c p)(hn:n<=140737488351232)(g:ThA w t u)(m:Sk An w e m2 F q)(hl:l<=m2)(W:m2<=1000):Calls prog 96 #[γ #[.iface 167 (γ #[σ a n c,u]),ι (l:Int),β cb],σ e m2 F] w λe w'=>∃v',e=ω v'/\RNx w (if(q.drop l).take p.length=p then some ⟨t,l+p.length,true⟩else none) v' w':=by
 have X:=m.len;have K:=o.len;have d:Bl w w:=Bl.refl w;refine Ck func96 48<|Hn 2 (#[.iface 167 (γ #[σ a n c,u]),ι (l:Int),β cb]) 131 ?_;intro w1 A v h;have V:w.heap.size<=A:=by have:=d.size;have:=v.hg;omega
 refine Hn 0 (#[ν,ι 0,β false]) 131 ?_;intro w5 i k b;have S:A<i:=by have:=h.lt;have:=k.hg;omega
 replace d:=d.go v.below;have B:w.heap.size<=i:=by have:=d.size;have:=k.hg;omega
 replace h:=h.go k.below;refine Hl 7 h 1 3 (ι (l:Int)) ?_;replace m:=(m.go v.below).go k.below;obtain⟨O,J,L,H,y⟩:=m.cutFrom l (by omega);refine Hx 0 (og f96 1 3) (σ O J L) (λ_=>H _ _ _ _ _ _ rfl (by kernel_rfl) (by kernel_rfl) rfl)<|Hl 7 h 0 85 (.iface 167 (γ #[σ a n c,u]))<|Hn 13 (#[ε,ν]) 167 ?_;intro Y s f C;replace g:=(g.go v.below).go k.below;refine Hy 0 (og f96 4 1) s (#[σ a n c,u]) (λ_=>AM 167 _ _ _ _ _ 167 rfl (by kernel_rfl) (by kernel_rfl) C (by kernel_rfl) (by kernel_rfl) (UB rfl g.one)) ?_;intro E I;clear C;replace f:=f.put I;have P:A<s:=by have:=h.lt;have:=f.hg;omega
 have Q:i<s:=by have:=b.lt;have:=f.hg;omega
 replace d:=d.go k.below;have T:w.heap.size<=s:=by have:=d.size;have:=f.hg;omega
 replace d:=d.go f.below;replace o:=(o.go v.below).go k.below;replace o:=o.go f.below;replace g:=g.go f.below;replace m:=m.go f.below;replace h:=h.go f.below;replace b:=b.go f.below;replace y:=y.go f.below;have r:Rw s E (#[σ a n c,u]) 167:=f.row;refine Hl 6 r 0 32 (σ a n c)<|Hc 0 (R:=λu w'=>u=β (decide ((q.drop l).take p.length=p))/\Bl (E) w') (Iz y o) ?_;rintro _ Z⟨rfl,j⟩;cases D:(decide ((q.drop l).take p.length=p))with
 |true=>
  replace r:=r.go j;refine Hl 6 r 1 85 (u) ?_;replace h:=h.go j;refine Hl 1 h 1 3 (ι (l:Int))<|Hl 1 r 0 32 (σ a n c)<|Hw 1 (ι (IntKind.i64.wrap ((l:Int)+(n:Int)))) (ι ((l+n:Nat):Int)) (Ao (Value.int .i64) ((Cy (by omega) (by omega)).trans (by omega))) ?_;replace g:=g.go j;refine Hx 0 (og f96 6 8) (γ #[u,ι ((l+n:Nat):Int),β true]) (λ_=>ol_build 131 _ rfl [(0,u),(1,ι ((l+n:Nat):Int)),(2,β true)] (by kernel_rfl) _ (KU g _ _)) ?_;replace b:=b.go j;refine Hy 0 (og f96 6 9) i (#[u,ι ((l+n:Nat):Int),β true]) (λ_=>AM 131 _ _ _ _ _ 131 rfl (by kernel_rfl) (by kernel_rfl) b (by kernel_rfl) (by kernel_rfl) (UC g.one rfl rfl)) ?_;intro M z;have G:=Nt.rows b (Kc (show ThA w .no ν from rfl) (λ_ e=>by cases e) (λ_ e=>by cases e)) z.touch;replace b:Rw i M (#[u,ι ((l+n:Nat):Int),β true]) 131:=z.row b;refine JI 6 (θ #[γ (#[u,ι ((l+n:Nat):Int),β true]),β true]) (λ_=>IP rfl _ i _ _ (by kernel_rfl) (by kernel_rfl) b υ131 rfl (by kernel_rfl)) ?_;rw[Ai (B6 D)];replace d:=(d.go j).tou z.touch B;replace g:=g.nt G;refine⟨_,rfl,⟨_,?_,g⟩,d⟩;rw[K]
 |false=>
  replace b:=b.go j;refine Hy 9 (og f96 11 1) i (#[ν,ι 0,β false]) (λ_=>AM 131 _ _ _ _ _ 131 rfl (by kernel_rfl) (by kernel_rfl) b (by kernel_rfl) (by kernel_rfl) (by kernel_rfl)) ?_;intro N x;have U:=Nt.rows b (Kc (show ThA w .no ν from rfl) (λ_ e=>by cases e) (λ_ e=>by cases e)) x.touch;replace b:Rw i N (#[ν,ι 0,β false]) 131:=x.row b;refine JI 4 (θ #[γ (#[ν,ι 0,β false]),β false]) (λ_=>IP rfl _ i _ _ (by kernel_rfl) (by kernel_rfl) b υ131 rfl (by kernel_rfl)) ?_;rw[Ae (CU D)];replace d:=(d.go j).tou x.touch B;exact⟨_,rfl,rfl,d⟩
theorem Xo{w:Γ}{vs:Nat->Δ}{k:Nat->Pt}{a:Ω}{n c:Nat}{x:τ}{l:Nat}{cb:Bool}{e:Ω}{m2 z:Nat}{q:τ}(p:KA w k vs)(s:Sk An w a n c x)(U:n<=256)(j:Sk An w e m2 z q)(T:l<=m2)(Q:m2<=1000)(G:q.drop l=[]):Calls prog 96 #[γ #[.iface 160 (γ (brc vs (σ a n c))),ι (l:Int),β cb],σ e m2 z] w λe w'=>∃v',e=ω v'/\RNx w none v' w':=by
 have S:=j.len;have d:Bl w w:=Bl.refl w;refine Ck func96 48<|Hn 2 (#[.iface 160 (γ (brc vs (σ a n c))),ι (l:Int),β cb]) 131 ?_;intro w1 u o f;have P:w.heap.size<=u:=by have:=d.size;have:=o.hg;omega
 refine Hn 0 (#[ν,ι 0,β false]) 131 ?_;intro V i h g;have L:u<i:=by have:=f.lt;have:=h.hg;omega
 replace d:=d.go o.below;have A:w.heap.size<=i:=by have:=d.size;have:=h.hg;omega
 replace f:=f.go h.below;refine Hl 7 f 1 3 (ι (l:Int)) ?_;replace j:=(j.go o.below).go h.below;obtain⟨I,y,D,B,r⟩:=j.cutFrom l (by omega);refine Hx 0 (og f96 1 3) (σ I y D) (λ_=>B _ _ _ _ _ _ rfl (by kernel_rfl) (by kernel_rfl) rfl)<|Hl 7 f 0 85 (.iface 160 (γ (brc vs (σ a n c))))<|Hn 21 (brc (λ_=>ν) (ε)) 160 ?_;intro R m b v;replace p:=(p.go o.below).go h.below;refine Hy 0 (og f96 8 1) m (brc vs (σ a n c)) (λ_=>AM 160 _ _ _ _ _ 160 rfl (by kernel_rfl) (by kernel_rfl) v (by kernel_rfl) (by kernel_rfl) (CV p)) ?_;intro H C;clear v;replace b:=b.put C;have J:u<m:=by have:=f.lt;have:=b.hg;omega
 have K:i<m:=by have:=g.lt;have:=b.hg;omega
 replace d:=d.go h.below;have N:w.heap.size<=m:=by have:=d.size;have:=b.hg;omega
 replace d:=d.go b.below;replace p:=p.go b.below;replace s:=(s.go o.below).go h.below;replace s:=s.go b.below;replace j:=j.go b.below;replace f:=f.go b.below;replace g:=g.go b.below;replace r:=r.go b.below;have O:Rw m H (brc vs (σ a n c)) 160:=b.row;rw[G]at r;have E:=r.len;refine Hb 6 (decide ((y:Int)>(0:Int))) false (Bi (by simp at E;omega))<|Hy 9 (og f96 11 1) i (#[ν,ι 0,β false]) (λ_=>AM 131 _ _ _ _ _ 131 rfl (by kernel_rfl) (by kernel_rfl) g (by kernel_rfl) (by kernel_rfl) (by kernel_rfl)) ?_;intro F t;have M:=Nt.rows g (Kc (show ThA w .no ν from rfl) (λ_ e=>by cases e) (λ_ e=>by cases e)) t.touch;replace g:Rw i F (#[ν,ι 0,β false]) 131:=t.row g;refine JI 4 (θ #[γ (#[ν,ι 0,β false]),β false]) (λ_=>IP rfl _ i _ _ (by kernel_rfl) (by kernel_rfl) g υ131 rfl (by kernel_rfl)) ?_;replace d:=d.tou t.touch A;exact⟨_,rfl,rfl,d⟩
theorem Xp{w:Γ}{vs:Nat->Δ}{k:Nat->Pt}{a:Ω}{n c:Nat}{x:τ}{l:Nat}{cb:Bool}{e:Ω}{m2 J:Nat}{q:τ}(B:KA w k vs)(C:Sk An w a n c x)(Q:n<=256)(K:Sk An w e m2 J q)(hl:l<=m2)(ah:m2<=1000){i:Int}{r:τ}(X:q.drop l=i::r)(hi:0<=i/\i<16):Calls prog 96 #[γ #[.iface 160 (γ (brc vs (σ a n c))),ι (l:Int),β cb],σ e m2 J] w λe w'=>∃v',e=ω v'/\RNx w (some ⟨k i.toNat,l+1,false⟩) v' w':=by
 have ak:=K.len;have D:Sk (λb=>b<w.heap.size) w e m2 J q:=⟨K.ag,λx C Q=>K.old C Q⟩;have j:Bl w w:=Bl.refl w;refine Ck func96 48<|Hn 2 (#[.iface 160 (γ (brc vs (σ a n c))),ι (l:Int),β cb]) 131 ?_;intro w1 G E d;have ae:w.heap.size<=G:=by have:=j.size;have:=E.hg;omega
 refine Hn 0 (#[ν,ι 0,β false]) 131 ?_;intro w5 A u m;have ac:G<A:=by have:=d.lt;have:=u.hg;omega
 replace j:=j.go E.below;have T:w.heap.size<=A:=by have:=j.size;have:=u.hg;omega
 replace d:=d.go u.below;refine Hl 7 d 1 3 (ι (l:Int)) ?_;replace D:=(D.go E.below).go u.below;obtain⟨Z,H,O,U,z⟩:=D.cutFrom l (by omega);refine Hx 0 (og f96 1 3) (σ Z H O) (λ_=>U _ _ _ _ _ _ rfl (by kernel_rfl) (by kernel_rfl) rfl)<|Hl 7 d 0 85 (.iface 160 (γ (brc vs (σ a n c))))<|Hn 21 (brc (λ_=>ν) (ε)) 160 ?_;intro ai o h N;replace B:=(B.go E.below).go u.below;refine Hy 0 (og f96 8 1) o (brc vs (σ a n c)) (λ_=>AM 160 _ _ _ _ _ 160 rfl (by kernel_rfl) (by kernel_rfl) N (by kernel_rfl) (by kernel_rfl) (CV B)) ?_;intro Y V;clear N;replace h:=h.put V;have aa:G<o:=by have:=d.lt;have:=h.hg;omega
 have ab:A<o:=by have:=m.lt;have:=h.hg;omega
 replace j:=j.go u.below;have ad:w.heap.size<=o:=by have:=j.size;have:=h.hg;omega
 replace j:=j.go h.below;replace B:=B.go h.below;replace C:=(C.go E.below).go u.below;replace C:=C.go h.below;replace D:=D.go h.below;replace d:=d.go h.below;replace m:=m.go h.below;replace z:=z.go h.below;have g:Rw o Y (brc vs (σ a n c)) 160:=h.row;rw[X]at z;have W:=z.len;obtain⟨p,F,rfl,f,P⟩:=z.head;have S:p<w.heap.size:=z.k ⟨p,F,none⟩ rfl P;refine Hb 6 (decide ((H:Int)>(0:Int))) true (AF (by simp at W;omega)) ?_;have I:i.toNat<16:=by omega
 have t:=B i.toNat I;have af:p<A:=by have:=S;omega
 refine Fq 4 (λv=>Rw G v (#[.iface 160 (γ (brc vs (σ a n c))),ι (l:Int),β cb]) 131/\Rw o v (brc vs (σ a n c)) 160/\v.cell? ⟨p,F+0*1,none⟩=some (η i)) (⟨d,g,f⟩) ?_;replace f:=Fz f (Ac _ _).drew;replace d:=d.go (Ac _ _).drew;replace g:=g.go (Ac _ _).drew;refine Dx [0] 1 (og f96 10 1) (ψ p (F+0*1)) (λv s _=>AW 32 _ _ p F 0 H O 1 5 rfl (by kernel_rfl) (by kernel_rfl) P υ32 (by kernel_rfl)) ⟨d,g,f⟩<|Dx [] 2 (og f96 10 2) (η i) (λv s _=>AY 5 _ ⟨p,F+0*1,none⟩ _ _ rfl (by kernel_rfl) s.2.2 υ5 rfl) ⟨d,g,f⟩<|Dx [3] 4 (og f96 10 4) (ψ o (0+i.toNat*1)) (λv s=>(λ_=>ol_indexK (kd:= .u8) 158 _ _ o 0 i.toNat 16 1 85 rfl (by kernel_rfl) (Eq.trans (b:=η i) (by kernel_rfl) (Ao (Value.int .u8) (DQ hi.1).symm)) I (by omega) υ158 (by kernel_rfl))) ⟨d,g,f⟩<|Dx [] 5 (og f96 10 5) (vs i.toNat) (λv s _=>AY 85 _ ⟨o,0+i.toNat*1,none⟩ _ _ rfl (by kernel_rfl) (by rw[A6,BE,Aj _ _ _ _ _ _ s.2.1];exact EQ _ _ _ I) υ85 rfl) ⟨d,g,f⟩<|Dl [6] 7 (λv s=>s.1) 1 3 (ι (l:Int)) ⟨d,g,f⟩<|Dx [] 8 (og f96 10 8) (ι ((l+1:Nat):Int)) (λv s=>(λ_=>E1 (v:=ι (IntKind.i64.wrap ((l:Int)+(1:Int)))) (by kernel_rfl) (Ao (Value.int .i64) ((Cy (by omega) (by omega)).trans (by omega))))) ⟨d,g,f⟩ ?_;replace t:=t.go (Ac _ _).drew;refine Dx [] 9 (og f96 10 9) (γ #[vs i.toNat,ι ((l+1:Nat):Int),β false]) (λv s=>(λ_=>ol_build 131 _ rfl [(0,vs i.toNat),(1,ι ((l+1:Nat):Int)),(2,β false)] (by kernel_rfl) _ (KU t _ _))) ⟨d,g,f⟩<|Dz [10] ?_;replace m:=m.go (Ac _ _).drew;refine Yy 10 (og f96 10 10) A (#[vs i.toNat,ι ((l+1:Nat):Int),β false]) (λ_=>AM 131 _ _ _ _ _ 131 rfl (by kernel_rfl) (by kernel_rfl) m (by kernel_rfl) (by kernel_rfl) (UC t.one rfl rfl)) (λw' L=>⟨d.past L.touch (by omega),g.past L.touch (by omega),(Av (L.other (k:=p) (by omega))).trans f⟩) ?_ yn;intro aj y;have M:=(Av (y.other (k:=p) (by omega))).trans f;clear f;have f:=M;clear M;have R:=Nt.rows m (Kc (show ThA w .no ν from rfl) (λ_ e=>by cases e) (λ_ e=>by cases e)) y.touch;replace m:=y.row m;replace d:=d.past y.touch (by omega);replace g:=g.past y.touch (by omega);refine Dq [11] ⟨d,g,f⟩<|JI 4 (θ #[γ (#[vs i.toNat,ι ((l+1:Nat):Int),β false]),β true]) (λ_=>IP rfl _ A _ _ (by kernel_rfl) (by kernel_rfl) m υ131 rfl (by kernel_rfl)) ?_;replace j:=(j.go (Ac _ _).drew).tou y.touch T;replace t:=t.nt R;exact⟨_,rfl,⟨_,rfl,t⟩,j⟩
end
end Pa
end Go.Proofs.YtkdlocloepbmcaaGreat
