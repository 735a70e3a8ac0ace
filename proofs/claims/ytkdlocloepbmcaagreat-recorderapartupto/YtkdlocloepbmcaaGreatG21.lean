/- What a way's end says, what is looked for; a branch in its normal form. -/
import Derived.Test.YtkdlocloepbmcaaGreatG20
set_option linter.unusedVariables false
set_option linter.unusedSimpArgs false
set_option maxRecDepth 100000
set_option maxHeartbeats 1000000
open Go.Proofs.Tryz Go.RowKit
namespace Go.Proofs.YtkdlocloepbmcaaGreat
namespace Pa
section
open Pt
theorem PZ{w:Γ}{t:Pt}{v:Δ}{l:Nat}{cb:Bool}{e:Ω}{m2 z:Nat}{q:τ}(h:ThA w t v)(g:Sk An w e m2 z q)(j:l<=m2)(f:m2<=1000)(B:nibs q):Calls prog 96 #[γ #[v,ι (l:Int),β cb],σ e m2 z] w λe w'=>∃v',e=ω v'/\RNx w (nextP q ⟨t,l,cb⟩) v' w':=by
 cases t with
 |no=>obtain rfl:v=ν:=h;exact Zv g j f
 |st d=>obtain⟨rfl,hd,_⟩:=h;exact Zw hd g j f
 |leaf p x=>obtain⟨a,n,c,b,m,d,rfl,y,s,C,o⟩:=h;exact UI y s C o g j f
 |ext p t=>obtain⟨a,n,c,u,rfl,y,o,D⟩:=h;exact Xn y o D g j f
 |br k x=>
  obtain⟨vs,a,n,c,rfl,A,s,o⟩:=h;unfold nextP;simp only;cases hd:q.drop l with
  |nil=>exact Xo A s o g j f hd
  |cons i r=>exact Xp A s o g j f hd (B i (BA (by rw[hd];simp:i∈q.drop l)))
theorem XaO{w:Γ}{l:Nat}{cb:Bool}{e:Ω}{m2 c:Nat}{q:τ}(g:Sk An w e m2 c q)(j:l<=m2):Calls prog 70 #[γ #[ν,ι (l:Int),β cb],σ e m2 c] w λe w'=>∃v',e=ω v'/\RSv w [] v' w':=by
 have i:=g.len;have a:Bl w w:=Bl.refl w;refine Ck func70 26<|Hn 2 (#[ν,ι (l:Int),β cb]) 131 ?_;intro w1 f b d;have h:w.heap.size<=f:=by have:=a.size;have:=b.hg;omega
 refine Hl 7 d 0 85 (ν)<|Hr 28 (ε) ?_;replace a:=a.go b.below;exact⟨_,rfl,⟨none,0,0,rfl,Sk.nil _ _,by omega⟩,a⟩
theorem XaP{w:Γ}{d:τ}{l:Nat}{cb:Bool}{e:Ω}{m2 c:Nat}{q:τ}(hd:d.length=32)(h:Sk An w e m2 c q)(k:l<=m2):Calls prog 70 #[γ #[.iface 88 (γ (B8 d)),ι (l:Int),β cb],σ e m2 c] w λe w'=>∃v',e=ω v'/\RSv w [] v' w':=by
 have j:=h.len;have a:Bl w w:=Bl.refl w;refine Ck func70 26<|Hn 2 (#[.iface 88 (γ (B8 d)),ι (l:Int),β cb]) 131 ?_;intro w1 g b f;have i:w.heap.size<=g:=by have:=a.size;have:=b.hg;omega
 refine Hl 7 f 0 85 (.iface 88 (γ (B8 d)))<|Hr 28 (ε) ?_;replace a:=a.go b.below;exact⟨_,rfl,⟨none,0,0,rfl,Sk.nil _ _,by omega⟩,a⟩
theorem Xq{w:Γ}{a b:Ω}{n c m d:Nat}{p x:τ}{l:Nat}{cb:Bool}{e:Ω}{m2 C:Nat}{q:τ}(k:Sk An w a n c p)(o:Sk An w b m d x)(T:m<=256)(S:n<=140737488351232)(j:Sk An w e m2 C q)(Q:l<=m2):Calls prog 70 #[γ #[.iface 157 (γ #[σ a n c,σ b m d]),ι (l:Int),β cb],σ e m2 C] w λe w'=>∃v',e=ω v'/\RSv w (if p=q.drop l then x else[]) v' w':=by
 have P:=j.len;have f:Bl w w:=Bl.refl w;refine Ck func70 26<|Hn 2 (#[.iface 157 (γ #[σ a n c,σ b m d]),ι (l:Int),β cb]) 131 ?_;intro w1 z r g;have N:w.heap.size<=z:=by have:=f.size;have:=r.hg;omega
 refine Hl 7 g 0 85 (.iface 157 (γ #[σ a n c,σ b m d]))<|Hn 13 (#[ε,ε]) 157 ?_;intro U s i B;refine Hy 0 (og f70 3 1) s (#[σ a n c,σ b m d]) (λ_=>AM 157 _ _ _ _ _ 157 rfl (by kernel_rfl) (by kernel_rfl) B (by kernel_rfl) (by kernel_rfl) (by kernel_rfl)) ?_;intro E F;clear B;replace i:=i.put F;have L:z<s:=by have:=g.lt;have:=i.hg;omega
 replace f:=f.go r.below;have M:w.heap.size<=s:=by have:=f.size;have:=i.hg;omega
 replace f:=f.go i.below;replace k:=k.go r.below;replace k:=k.go i.below;replace o:=o.go r.below;replace o:=o.go i.below;replace j:=j.go r.below;replace j:=j.go i.below;replace g:=g.go i.below;have h:Rw s E (#[σ a n c,σ b m d]) 157:=i.row;refine Fq 3 (λv=>Rw z v (#[.iface 157 (γ #[σ a n c,σ b m d]),ι (l:Int),β cb]) 131/\Rw s v (#[σ a n c,σ b m d]) 157) (⟨g,h⟩) ?_;replace g:=g.go (Ac _ _).drew;replace h:=h.go (Ac _ _).drew;refine Dl [0] 1 (λv y=>y.2) 0 32 (σ a n c) ⟨g,h⟩<|Dl [2,3] 4 (λv y=>y.1) 1 3 (ι (l:Int)) ⟨g,h⟩ ?_;replace j:=j.go (Ac _ _).drew;obtain⟨K,I,J,H,G⟩:=j.cutFrom l (by omega);refine Dx [] 5 (og f70 4 5) (σ K I J) (λv y=>(λ_=>H _ _ _ _ _ _ rfl (by kernel_rfl) (by kernel_rfl) rfl)) ⟨g,h⟩<|Dz [6] ?_;replace k:=k.go (Ac _ _).drew;refine Yc 6 (R:=λu w'=>u=β (decide (p=q.drop l))/\Bl (E.drew) w') (EX k G) (λu w' D=>⟨g.go D.2,h.go D.2⟩) ?_ yn;rintro _ O⟨rfl,t⟩;refine Do ?_;cases A:(decide (p=q.drop l))with
 |true=>
  replace h:=h.go t;refine Hl 5 h 1 32 (σ b m d)<|Hr 6 (σ b m d) ?_;rw[Ai (B6 A)];replace f:=(f.go (Ac _ _).drew).go t;replace o:=(o.go (Ac _ _).drew).go t;exact⟨_,rfl,⟨_,_,_,rfl,o,by omega⟩,f⟩
 |false=>
  refine Hr 11 (ε) ?_;rw[Ae (CU A)];replace f:=(f.go (Ac _ _).drew).go t;exact⟨_,rfl,⟨none,0,0,rfl,Sk.nil _ _,by omega⟩,f⟩
theorem Zx{w:Γ}{a:Ω}{n c:Nat}{u:Δ}{p:τ}{t:Pt}{l:Nat}{cb:Bool}{e:Ω}{m2 f:Nat}{q:τ}(m:Sk An w a n c p)(r:n<=140737488351232)(s:ThA w t u)(i:Sk An w e m2 f q)(o:l<=m2):Calls prog 70 #[γ #[.iface 167 (γ #[σ a n c,u]),ι (l:Int),β cb],σ e m2 f] w λe w'=>∃v',e=ω v'/\RSv w [] v' w':=by
 have k:=i.len;have b:Bl w w:=Bl.refl w;refine Ck func70 26<|Hn 2 (#[.iface 167 (γ #[σ a n c,u]),ι (l:Int),β cb]) 131 ?_;intro w1 h d g;have j:w.heap.size<=h:=by have:=b.size;have:=d.hg;omega
 refine Hl 7 g 0 85 (.iface 167 (γ #[σ a n c,u]))<|Hr 28 (ε) ?_;replace b:=b.go d.below;exact⟨_,rfl,⟨none,0,0,rfl,Sk.nil _ _,by omega⟩,b⟩
theorem val_br{w:Γ}{vs:Nat->Δ}{k:Nat->Pt}{a:Ω}{n c:Nat}{x:τ}{l:Nat}{cb:Bool}{e:Ω}{m2 p:Nat}{q:τ}(h:KA w k vs)(g:Sk An w a n c x)(C:n<=256)(i:Sk An w e m2 p q)(B:l<=m2):Calls prog 70 #[γ #[.iface 160 (γ (brc vs (σ a n c))),ι (l:Int),β cb],σ e m2 p] w λe w'=>∃v',e=ω v'/\RSv w x v' w':=by
 have A:=i.len;have d:Bl w w:=Bl.refl w;refine Ck func70 26<|Hn 2 (#[.iface 160 (γ (brc vs (σ a n c))),ι (l:Int),β cb]) 131 ?_;intro w1 r f j;have z:w.heap.size<=r:=by have:=d.size;have:=f.hg;omega
 refine Hl 7 j 0 85 (.iface 160 (γ (brc vs (σ a n c))))<|Hn 21 (brc (λ_=>ν) (ε)) 160 ?_;intro D m b o;replace h:=h.go f.below;refine Hy 0 (og f70 7 1) m (brc vs (σ a n c)) (λ_=>AM 160 _ _ _ _ _ 160 rfl (by kernel_rfl) (by kernel_rfl) o (by kernel_rfl) (by kernel_rfl) (CV h)) ?_;intro u t;clear o;replace b:=b.put t;have v:r<m:=by have:=j.lt;have:=b.hg;omega
 replace d:=d.go f.below;have y:w.heap.size<=m:=by have:=d.size;have:=b.hg;omega
 replace d:=d.go b.below;replace h:=h.go b.below;replace g:=g.go f.below;replace g:=g.go b.below;replace i:=i.go f.below;replace i:=i.go b.below;replace j:=j.go b.below;have s:Rw m u (brc vs (σ a n c)) 160:=b.row;refine Hl 5 s 16 32 (σ a n c)<|Hr 6 (σ a n c) ?_;exact⟨_,rfl,⟨_,_,_,rfl,g,by omega⟩,d⟩
theorem JE{w:Γ}{t:Pt}{v:Δ}{l:Nat}{cb:Bool}{e:Ω}{m2 r:Nat}{q:τ}(h:ThA w t v)(f:Sk An w e m2 r q)(g:l<=m2):Calls prog 70 #[γ #[v,ι (l:Int),β cb],σ e m2 r] w λe w'=>∃v',e=ω v'/\RSv w (valS q ⟨t,l,cb⟩) v' w':=by
 cases t with
 |no=>obtain rfl:v=ν:=h;exact XaO f g
 |st d=>obtain⟨rfl,hd,_⟩:=h;exact XaP hd f g
 |leaf p x=>obtain⟨a,n,c,b,m,d,rfl,j,o,s,i⟩:=h;exact Xq j o s i f g
 |ext p t=>obtain⟨a,n,c,u,rfl,j,i,z⟩:=h;exact Zx j i z f g
 |br k x=>obtain⟨vs,a,n,c,rfl,y,o,i⟩:=h;exact val_br y o i f g
theorem Zy{w:Γ}{l:Nat}{cb:Bool}{g gK gU:Nat}{t0:Pt}{kn:Kn}{us:List τ}(d:PAt w g gK gU t0 kn us):Calls prog 95 #[π g,γ #[ν,ι (l:Int),β cb]] w λe w'=>∃v',e=ω v'/\RLk w g gK gU t0 kn us (some no) v' w':=by
 have b:Bl w w:=Bl.refl w;refine Ck func95 50<|Hn 2 (#[ν,ι (l:Int),β cb]) 131 ?_;intro w1 j h c;have q:w.heap.size<=j:=by have:=b.size;have:=h.hg;omega
 refine Hl 7 c 0 85 (ν)<|Hn 4 (B8 z32) 88 ?_;intro r f a i;refine Hy 0 (og f95 1 7) f (B8 z32) (λ_=>AM 88 _ _ _ _ _ 88 rfl (by kernel_rfl) (by kernel_rfl) i (ED (show z32.length=32 from rfl)) ((B8_size _).trans ((show z32.length=32 from rfl).trans ((show z32.length=32 from rfl).symm.trans (B8_size _).symm))) (B8_one _)) ?_;intro m k;clear i;replace a:=a.put k;have n:j<f:=by have:=c.lt;have:=a.hg;omega
 replace b:=b.go h.below;have p:w.heap.size<=f:=by have:=b.size;have:=a.hg;omega
 replace b:=b.go a.below;replace d:=d.go h.below;replace d:=d.go a.below;replace c:=c.go a.below;have o:Rw f m (B8 z32) 88:=a.row;refine Hl 14 c 0 85 (ν)<|Hr 6 (θ #[ν,β true]) ?_;exact⟨_,rfl,d,⟨_,rfl,rfl⟩,TU.of b⟩
theorem UJ{w:Γ}{a b:Ω}{n c m d:Nat}{p x:τ}{l:Nat}{cb:Bool}{g gK gU:Nat}{t0:Pt}{kn:Kn}{us:List τ}(q:PAt w g gK gU t0 kn us)(k:Sk An w a n c p)(o:Sk An w b m d x)(y:m<=256)(v:n<=140737488351232):Calls prog 95 #[π g,γ #[.iface 157 (γ #[σ a n c,σ b m d]),ι (l:Int),β cb]] w λe w'=>∃v',e=ω v'/\RLk w g gK gU t0 kn us (some (leaf p x)) v' w':=by
 have h:Bl w w:=Bl.refl w;refine Ck func95 50<|Hn 2 (#[.iface 157 (γ #[σ a n c,σ b m d]),ι (l:Int),β cb]) 131 ?_;intro w1 t j i;have D:w.heap.size<=t:=by have:=h.size;have:=j.hg;omega
 refine Hl 7 i 0 85 (.iface 157 (γ #[σ a n c,σ b m d]))<|Hn 4 (B8 z32) 88 ?_;intro E r f s;refine Hy 0 (og f95 1 7) r (B8 z32) (λ_=>AM 88 _ _ _ _ _ 88 rfl (by kernel_rfl) (by kernel_rfl) s (ED (show z32.length=32 from rfl)) ((B8_size _).trans ((show z32.length=32 from rfl).trans ((show z32.length=32 from rfl).symm.trans (B8_size _).symm))) (B8_one _)) ?_;intro z u;clear s;replace f:=f.put u;have A:t<r:=by have:=i.lt;have:=f.hg;omega
 replace h:=h.go j.below;have C:w.heap.size<=r:=by have:=h.size;have:=f.hg;omega
 replace h:=h.go f.below;replace k:=k.go j.below;replace k:=k.go f.below;replace o:=o.go j.below;replace o:=o.go f.below;replace q:=q.go j.below;replace q:=q.go f.below;replace i:=i.go f.below;have B:Rw r z (B8 z32) 88:=f.row;refine Hl 14 i 0 85 (.iface 157 (γ #[σ a n c,σ b m d]))<|Hr 6 (θ #[.iface 157 (γ #[σ a n c,σ b m d]),β true]) ?_;exact⟨_,rfl,q,⟨_,rfl,⟨_,_,_,_,_,_,rfl,k,o,y,v⟩⟩,TU.of h⟩
theorem Xr{w:Γ}{a:Ω}{n c:Nat}{u:Δ}{p:τ}{t:Pt}{l:Nat}{cb:Bool}{g gK gU:Nat}{t0:Pt}{kn:Kn}{us:List τ}(k:PAt w g gK gU t0 kn us)(i:Sk An w a n c p)(s:n<=140737488351232)(j:ThA w t u):Calls prog 95 #[π g,γ #[.iface 167 (γ #[σ a n c,u]),ι (l:Int),β cb]] w λe w'=>∃v',e=ω v'/\RLk w g gK gU t0 kn us (some (ext p t)) v' w':=by
 have d:Bl w w:=Bl.refl w;refine Ck func95 50<|Hn 2 (#[.iface 167 (γ #[σ a n c,u]),ι (l:Int),β cb]) 131 ?_;intro w1 q h f;have A:w.heap.size<=q:=by have:=d.size;have:=h.hg;omega
 refine Hl 7 f 0 85 (.iface 167 (γ #[σ a n c,u]))<|Hn 4 (B8 z32) 88 ?_;intro B m b o;refine Hy 0 (og f95 1 7) m (B8 z32) (λ_=>AM 88 _ _ _ _ _ 88 rfl (by kernel_rfl) (by kernel_rfl) o (ED (show z32.length=32 from rfl)) ((B8_size _).trans ((show z32.length=32 from rfl).trans ((show z32.length=32 from rfl).symm.trans (B8_size _).symm))) (B8_one _)) ?_;intro v r;clear o;replace b:=b.put r;have x:q<m:=by have:=f.lt;have:=b.hg;omega
 replace d:=d.go h.below;have z:w.heap.size<=m:=by have:=d.size;have:=b.hg;omega
 replace d:=d.go b.below;replace i:=i.go h.below;replace i:=i.go b.below;replace j:=j.go h.below;replace j:=j.go b.below;replace k:=k.go h.below;replace k:=k.go b.below;replace f:=f.go b.below;have y:Rw m v (B8 z32) 88:=b.row;refine Hl 14 f 0 85 (.iface 167 (γ #[σ a n c,u]))<|Hr 6 (θ #[.iface 167 (γ #[σ a n c,u]),β true]) ?_;exact⟨_,rfl,k,⟨_,rfl,⟨_,_,_,_,rfl,i,s,j⟩⟩,TU.of d⟩
theorem Zz{w:Γ}{vs:Nat->Δ}{k:Nat->Pt}{a:Ω}{n c:Nat}{x:τ}{l:Nat}{cb:Bool}{g gK gU:Nat}{t0:Pt}{kn:Kn}{us:List τ}(m:PAt w g gK gU t0 kn us)(j:KA w k vs)(i:Sk An w a n c x)(s:n<=256):Calls prog 95 #[π g,γ #[.iface 160 (γ (brc vs (σ a n c))),ι (l:Int),β cb]] w λe w'=>∃v',e=ω v'/\RLk w g gK gU t0 kn us (some (br k x)) v' w':=by
 have d:Bl w w:=Bl.refl w;refine Ck func95 50<|Hn 2 (#[.iface 160 (γ (brc vs (σ a n c))),ι (l:Int),β cb]) 131 ?_;intro w1 q h f;have z:w.heap.size<=q:=by have:=d.size;have:=h.hg;omega
 refine Hl 7 f 0 85 (.iface 160 (γ (brc vs (σ a n c))))<|Hn 4 (B8 z32) 88 ?_;intro A o b p;refine Hy 0 (og f95 1 7) o (B8 z32) (λ_=>AM 88 _ _ _ _ _ 88 rfl (by kernel_rfl) (by kernel_rfl) p (ED (show z32.length=32 from rfl)) ((B8_size _).trans ((show z32.length=32 from rfl).trans ((show z32.length=32 from rfl).symm.trans (B8_size _).symm))) (B8_one _)) ?_;intro t r;clear p;replace b:=b.put r;have u:q<o:=by have:=f.lt;have:=b.hg;omega
 replace d:=d.go h.below;have y:w.heap.size<=o:=by have:=d.size;have:=b.hg;omega
 replace d:=d.go b.below;replace j:=j.go h.below;replace j:=j.go b.below;replace i:=i.go h.below;replace i:=i.go b.below;replace m:=m.go h.below;replace m:=m.go b.below;replace f:=f.go b.below;have v:Rw o t (B8 z32) 88:=b.row;refine Hl 14 f 0 85 (.iface 160 (γ (brc vs (σ a n c))))<|Hr 6 (θ #[.iface 160 (γ (brc vs (σ a n c))),β true]) ?_;exact⟨_,rfl,m,⟨_,rfl,⟨_,_,_,_,rfl,j,i,s⟩⟩,TU.of d⟩
theorem O2{w:Γ}{d:τ}{l:Nat}{cb:Bool}{g gK gU:Nat}{t0:Pt}{kn:Kn}{us:List τ}(a:PAt w g gK gU t0 kn us)(hd:d.length=32)(t:findK d kn=none):Calls prog 95 #[π g,γ #[.iface 88 (γ (B8 d)),ι (l:Int),β cb]] w λe w'=>∃v',e=ω v'/\RLk w g gK gU t0 kn us none v' w':=by
 have b:Bl w w:=Bl.refl w;refine Ck func95 50 ?_;have B:=a.lt;have D:=a.km.lt;have E:=a.um.lt;refine Hn 2 (#[.iface 88 (γ (B8 d)),ι (l:Int),β cb]) 131 ?_;intro w1 p k j;have A:w.heap.size<=p:=by have:=b.size;have:=k.hg;omega
 refine Hl 7 j 0 85 (.iface 88 (γ (B8 d)))<|Hn 4 (B8 z32) 88 ?_;intro F i c o;refine Hy 0 (og f95 1 7) i (B8 d) (λ_=>AM 88 _ _ _ _ _ 88 rfl (by kernel_rfl) (by kernel_rfl) o (ED hd) ((B8_size _).trans ((show z32.length=32 from rfl).trans (hd.symm.trans (B8_size _).symm))) (B8_one _)) ?_;intro q r;clear o;replace c:=c.put r;have y:p<i:=by have:=j.lt;have:=c.hg;omega
 replace b:=b.go k.below;have z:w.heap.size<=i:=by have:=b.size;have:=c.hg;omega
 replace b:=b.go c.below;replace a:=a.go k.below;replace a:=a.go c.below;replace j:=j.go c.below;have f:Rw i q (B8 d) 88:=c.row;obtain⟨u,h,C⟩:=a.row;obtain⟨x,s,n⟩:=Hh (w:=(q).drew) (a.go (Ac _ _).drew).km hd;rw[t]at n;obtain rfl:x=ν:=n;refine Fq 14 (λv=>Rw i v (B8 d) 88/\Rw g v #[u, .map (some gK), .map (some gU)] 87) (⟨f,h⟩) ?_;replace f:=f.go (Ac _ _).drew;refine Dl [0,1,2] 3 (λv m=>m.2) 1 82 (.map (some gK)) ⟨f,h⟩<|Dx [] 4 (og f95 4 4) (γ (B8 d)) (λv m _=>BW 88 _ _ _ _ _ _ rfl (by kernel_rfl) m.1 υ88 rfl (ED hd)) ⟨f,h⟩<|Dz [5] ?_;refine Yx 5 (og f95 4 5) ν (λ_=>s _ _ _ _ rfl (by kernel_rfl) (by kernel_rfl)) ⟨f,h⟩ ?_ yn;refine Dq [6] ⟨f,h⟩<|Hr 33 (θ #[ν,β false]) ?_;replace b:=b.go (Ac _ _).drew;replace a:=a.go (Ac _ _).drew;exact⟨_,rfl,a,rfl,TU.of b⟩
theorem O3{w:Γ}{d:τ}{l:Nat}{cb:Bool}{g gK gU:Nat}{t0:Pt}{kn:Kn}{us:List τ}(a:PAt w g gK gU t0 kn us)(hd:d.length=32){t:Pt}(X:findK d kn=some t)(N:Wn 34 t)(V:t.isNd=true)(hl:l<=1000):Calls prog 95 #[π g,γ #[.iface 88 (γ (B8 d)),ι (l:Int),β cb]] w λe w'=>∃v',e=ω v'/\RLk w g gK gU t0 kn (if(cb&&!isBr t)||!fitP t l then us else useP d us) (if(cb&&!isBr t)||!fitP t l then none else some t) v' w':=by
 obtain⟨q,x⟩:∃q,((cb&&!isBr t)||!fitP t l)=q:=⟨_,rfl⟩;rw[x];have c:Bl w w:=Bl.refl w;refine Ck func95 50 ?_;have ad:=a.lt;have af:=a.km.lt;have ac:=a.um.lt;have W:t.isNo=false:=by cases t<;>first|rfl|cases V
 refine Hn 2 (#[.iface 88 (γ (B8 d)),ι (l:Int),β cb]) 131 ?_;intro w1 M H i;have ab:w.heap.size<=M:=by have:=c.size;have:=H.hg;omega
 refine Hl 7 i 0 85 (.iface 88 (γ (B8 d)))<|Hn 4 (B8 z32) 88 ?_;intro w5 p n L;refine Hy 0 (og f95 1 7) p (B8 d) (λ_=>AM 88 _ _ _ _ _ 88 rfl (by kernel_rfl) (by kernel_rfl) L (ED hd) ((B8_size _).trans ((show z32.length=32 from rfl).trans (hd.symm.trans (B8_size _).symm))) (B8_one _)) ?_;intro C P;clear L;replace n:=n.put P;have Z:M<p:=by have:=i.lt;have:=n.hg;omega
 replace c:=c.go H.below;have aa:w.heap.size<=p:=by have:=c.size;have:=n.hg;omega
 replace c:=c.go n.below;replace a:=a.go H.below;replace a:=a.go n.below;replace i:=i.go n.below;have b:Rw p C (B8 d) 88:=n.row;obtain⟨Y,z,ae⟩:=a.row;obtain⟨K,Q,f⟩:=Hh (w:=(C).drew) (a.go (Ac _ _).drew).km hd;rw[X]at f;refine Fq 14 (λv=>Rw p v (B8 d) 88/\Rw g v #[Y, .map (some gK), .map (some gU)] 87) (⟨b,z⟩) ?_;replace b:=b.go (Ac _ _).drew;refine Dl [0,1,2] 3 (λv j=>j.2) 1 82 (.map (some gK)) ⟨b,z⟩<|Dx [] 4 (og f95 4 4) (γ (B8 d)) (λv j _=>BW 88 _ _ _ _ _ _ rfl (by kernel_rfl) j.1 υ88 rfl (ED hd)) ⟨b,z⟩<|Dz [5] ?_;refine Yx 5 (og f95 4 5) K (λ_=>Q _ _ _ _ rfl (by kernel_rfl) (by kernel_rfl)) ⟨b,z⟩ ?_ yn;refine Dq [6] ⟨b,z⟩<|Hx 5 (og f95 5 1) (β false) (λ_=>E1 (Xe f 25 _ rfl (by kernel_rfl) rfl) (Ao β W)) ?_;replace i:=i.go (Ac _ _).drew;refine Hl 2 i 2 4 (β cb)<|Hp 0 (β cb) ?_;cases y:(cb)with
 |true=>
  refine Hc 1 (R:=RVl C.drew (β t.isBr)) (PW f) ?_;rintro _ U⟨rfl,k⟩;refine Hp 0 (β (!t.isBr))<|Hp 0 (β (!t.isBr))<|Hp 0 (β (!t.isBr))<|Hp 0 (β (!t.isBr)) ?_;cases s:(!t.isBr)with
  |true=>
   refine Hr 17 (θ #[ν,β false]) ?_;rw[DL]at s;obtain rfl:true=q:=by rw[<-x];simp[y,s]
   replace c:=(c.go (Ac _ _).drew).go k;replace a:=(a.go (Ac _ _).drew).go k;exact⟨_,rfl,a,rfl,TU.of c⟩
  |false=>
   replace i:=i.go k;refine Hl 2 i 1 3 (ι (l:Int)) ?_;replace f:=f.go k;refine Hc 0 (R:=RVl U (β (fitP t l))) (PX 34 t N f (by omega)) ?_;rintro _ T⟨rfl,r⟩;refine Hp 0 (β (!(fitP t l)))<|Hp 0 (β (!(fitP t l))) ?_;cases A:(!(fitP t l))with
   |true=>
    refine Hr 11 (θ #[ν,β false]) ?_;rw[Ef]at s;rw[DL]at A;obtain rfl:true=q:=by rw[<-x];simp[y,s,A]
    replace c:=((c.go (Ac _ _).drew).go k).go r;replace a:=((a.go (Ac _ _).drew).go k).go r;exact⟨_,rfl,a,rfl,TU.of c⟩
   |false=>
    replace a:=((a.go (Ac _ _).drew).go k).go r;obtain⟨I,h,O⟩:=a.row;obtain⟨J,E,G,m,o⟩:=PV (w:=(T).drew) (a.go (Ac _ _).drew).um hd;replace b:=(b.go k).go r;refine Fq 6 (λv=>Rw p v (B8 d) 88/\Rw g v #[I, .map (some gK), .map (some gU)] 87) (⟨b,h⟩) ?_;replace b:=b.go (Ac _ _).drew;refine Dl [0,1,2] 3 (λv j=>j.2) 2 84 (.map (some gU)) ⟨b,h⟩<|Dx [] 4 (og f95 7 4) (γ (B8 d)) (λv j _=>BW 88 _ _ _ _ _ _ rfl (by kernel_rfl) j.1 υ88 rfl (ED hd)) ⟨b,h⟩<|Dy [5] [6] ⟨b,h⟩ ?_;replace a:=a.go (Ac _ _).drew;refine Ys 6 (og f95 7 6) (λ_=>E _ _ _ _ _ rfl (by kernel_rfl) (by kernel_rfl) (by kernel_rfl)) ⟨b.past m (by omega),h.drew.past m (by have:=a.neU;omega)⟩ ?_ yn;have F:=a.used m o G;replace c:=(((c.go (Ac _ _).drew).go k).go r).go (Ac _ _).drew;have D:TU gU w J:=(TU.of c).trans ⟨m,o⟩;refine Do<|Hr 9 (θ #[K,β true]) ?_;rw[Ef]at s;rw[Ef]at A;obtain rfl:false=q:=by rw[<-x];simp[y,s,A]
    replace f:=((f.go r).go (Ac _ _).drew).nt o;exact⟨_,rfl,F,⟨_,rfl,f⟩,D⟩
 |false=>
  refine Hl 8 i 1 3 (ι (l:Int))<|Hc 0 (R:=RVl C.drew (β (fitP t l))) (PX 34 t N f (by omega)) ?_;rintro _ S⟨rfl,u⟩;refine Hp 0 (β (!(fitP t l)))<|Hp 0 (β (!(fitP t l))) ?_;cases B:(!(fitP t l))with
  |true=>
   refine Hr 11 (θ #[ν,β false]) ?_;rw[DL]at B;obtain rfl:true=q:=by rw[<-x];simp[y,B]
   replace c:=(c.go (Ac _ _).drew).go u;replace a:=(a.go (Ac _ _).drew).go u;exact⟨_,rfl,a,rfl,TU.of c⟩
  |false=>
   replace a:=(a.go (Ac _ _).drew).go u;obtain⟨I,h,O⟩:=a.row;obtain⟨J,E,G,m,o⟩:=PV (w:=(S).drew) (a.go (Ac _ _).drew).um hd;replace b:=b.go u;refine Fq 6 (λv=>Rw p v (B8 d) 88/\Rw g v #[I, .map (some gK), .map (some gU)] 87) (⟨b,h⟩) ?_;replace b:=b.go (Ac _ _).drew;refine Dl [0,1,2] 3 (λv j=>j.2) 2 84 (.map (some gU)) ⟨b,h⟩<|Dx [] 4 (og f95 7 4) (γ (B8 d)) (λv j _=>BW 88 _ _ _ _ _ _ rfl (by kernel_rfl) j.1 υ88 rfl (ED hd)) ⟨b,h⟩<|Dy [5] [6] ⟨b,h⟩ ?_;replace a:=a.go (Ac _ _).drew;refine Ys 6 (og f95 7 6) (λ_=>E _ _ _ _ _ rfl (by kernel_rfl) (by kernel_rfl) (by kernel_rfl)) ⟨b.past m (by omega),h.drew.past m (by have:=a.neU;omega)⟩ ?_ yn;have F:=a.used m o G;replace c:=((c.go (Ac _ _).drew).go u).go (Ac _ _).drew;have D:TU gU w J:=(TU.of c).trans ⟨m,o⟩;refine Do<|Hr 9 (θ #[K,β true]) ?_;rw[Ef]at B;obtain rfl:false=q:=by rw[<-x];simp[y,B]
   replace f:=((f.go u).go (Ac _ _).drew).nt o;exact⟨_,rfl,F,⟨_,rfl,f⟩,D⟩
theorem Hk{w:Γ}{v:Δ}{s:Sp}{g gK gU:Nat}{t0:Pt}{kn:Kn}{us:List τ}(f:PAt w g gK gU t0 kn us)(h:ThA w s.t v)(C:s.l<=1000):Calls prog 95 #[π g,γ #[v,ι ((s.l:Nat):Int),β s.c]] w λe w'=>∃v',e=ω v'/\RLk w g gK gU t0 kn (lkU kn s us) (lookP kn s) v' w':=by
 obtain⟨t,l,cb⟩:=s;unfold lkU lookP;cases t with
 |no=>obtain rfl:v=ν:=h;exact Zy f
 |leaf p x=>obtain⟨a,n,c,b,m,d,rfl,j,q,A,i⟩:=h;exact UJ f j q A i
 |ext p t=>obtain⟨a,n,c,u,rfl,j,i,D⟩:=h;exact Xr f j i D
 |br k x=>obtain⟨vs,a,n,c,rfl,B,q,i⟩:=h;exact Zz f B q i
 |st d=>
  obtain⟨rfl,hd,E⟩:=h;simp only;cases o:findK d kn with
  |none=>exact O2 f hd o
  |some t=>
   obtain⟨y,r,rfl⟩:=FI o;have:=O3 (l:=l) (cb:=cb) f hd o (f.ok y r).1 (f.ok y r).2 C;simp only;cases z:((cb&&!isBr y.2)||!fitP y.2 l)with
   |true=>simpa[z]using this
   |false=>simpa[z]using this
def nU(u:Δ):Prop:=∀x,u≠η x
def NuB(w:Γ)(v:Δ):Prop:=∀k cur T fr,v.ownBlock=some k->w.heap[k]?=some (.cells cur T fr)->∀u∈cur.toList,nU u
theorem Z0(n:Nat):∀u∈(Builtin.zeroCells #[ν,ι 0,β false] n).toList,nU u:=by
 intro u a;unfold Builtin.zeroCells at a;simp only[Array.toList_map,BC]at a;obtain⟨i,_,rfl⟩:=a;rcases(show i%3=0∨i%3=1∨i%3=2 by omega)with e|e|e<;>(intro x;simp[e])
theorem NuB.nil(w:Γ):NuB w (ε):=λk cur T b a=>by simp[Value.ownBlock]at a
theorem XaQ{P:Program}{w:World}{base:Nat}{t ty e:TypeId}{i:TypeInfo}(A:P.underlying t=some (.slice e))(B:P.info? e=some i)(J:i.zero=some (.agg #[.nilIface, .int .i64 0, .bool false]))(f:i.size=3)(G:i.bytes=32)
 {v:Value} {n:Nat} {xs:List Value} (s:w.ownsRow base e 3 v n xs) (K:NuB w v) {a:Addr} {m c:Nat} {news:List Value} (y:news.length=m*3) (z:∀j u,news[j]?=some u->w.cell? (a.add j)=some u) (V:∀u∈news,u.oneCell'=true) (F:∀u∈news,nU u) (Y:0<m)
 (R:n+m<=maxLen) (L:(n+m)*32<=140737488355328) {v':Value} {w':World} (d:(Builtin.append_ #[t,t] ty #[v, .slice (some a) m c]).run P w= .ok v' w'):NuB w' v':=by
 have Z:n+m<=9223372036854775807:=by simp only[maxLen]at R;omega
 have Q:∀{g cap:Nat},v= .slice (some ⟨g,0,none⟩) n cap->∀u∈xs,nU u:=by
  intro g cap ev u b;rcases s.2 with⟨rfl,rfl⟩|⟨g',aa,cur,rfl,S,h,U,O,x,D⟩
  ·cases ev
  ·exact K g' cur e (0,0) rfl h u (by rw[<-D]at b;exact Bb b)
 have E:∀{ys:List Value}{q:Nat},(∀u∈ys,nU u)->∀u∈(ys.toArray++news.toArray++Builtin.zeroCells #[.nilIface, .int .i64 0, .bool false] q).toList,nU u:=by
  intro ys q X u b;simp only[Array.toList_append,AP]at b;rcases b with(b|b)|b
  ·exact X u b
  ·exact F u b
  ·exact Z0 _ u b
 have I:∀{cs:Array Value}{q r:Nat},(∀u∈cs.toList,nU u)->NuB (w.drew.alloc (.cells cs e)) (.slice (some ⟨w.heap.size,0,none⟩) q r):=by
  intro cs q r x k cur T W l p;simp only[Value.ownBlock,Cd]at l;subst l;rw[show w.heap.size=w.drew.heap.size from rfl,Ak w.drew]at p;cases p;exact x
 rcases id s.2 with⟨rfl,rfl⟩|⟨g,cap,cur,rfl,S,h,U,O,x,D⟩
 ·have o:=EU (P:=P) w t ty e i _ A B J a m c news (by rw[f];exact y) z Y (by omega) (by rw[G];omega);rw[o]at d;cases d;refine I ?_;have:=E (ys:=[]) (q:=grownCap w m 0 e-m) (λu b=>by cases b);rw[show([]:List Value).toArray=#[]from rfl,EJ]at this;exact this
 ·by_cases C:n+m<=cap
  ·have N:n*i.size+news.length<=cur.size:=(by rw[y,x,f,<-Nat.add_mul];exact E0 _ C);have o:=EE (P:=P) w t ty e i A B g n cap cur h a m c news (by rw[f];exact y) z V C N;rw[o]at d;cases d;intro k ab T W l p;simp only[Value.ownBlock,Cd]at l;subst l;rw[AC w g cur _ e _ h]at p;cases p;intro u b;have H:=K g cur e (0,0) rfl h;simp only[AP]at b;rcases b with(b|b)|b
   ·exact H u (Bb b)
   ·exact F u b
   ·exact H u (BA b)
  ·have M:∀j u,xs[j]?=some u->w.cell? ((⟨g,0,none⟩:Addr).add j)=some u:=s.cells (g:=g) rfl;have o:=EF (P:=P) w t ty e i _ A B J ⟨g,0,none⟩ n cap xs (by rw[f];exact s.1) M a m c news (by rw[f];exact y) z (by omega) (by omega) (by rw[G];exact growslice_fits (by omega) L);rw[o]at d;cases d;exact I (E (Q rfl))
def spc(p:Δ×Sp):List Δ:=[p.1,ι ((p.2.l:Nat):Int),β p.2.c]
def WayA(w:Γ)(base:Nat)(v:Δ)(ws:List Sp):Prop:=∃ps:List (Δ×Sp),ps.map (·.2)=ws/\w.ownsRow base 131 3 v ps.length (ps.flatMap spc)/\NuB w v/\∀p∈ps,ThA w p.2.t p.1
theorem SL{w:Γ}{base e sz:Nat}{v:Δ}{n:Nat}{xs:List Δ}(h:w.ownsRow base e sz v n xs):∀k,v.ownBlock=some k->base<=k/\k<w.heap.size:=by
 intro k a;rcases h.2 with⟨rfl,_⟩|⟨g,cap,cur,rfl,b,c,_⟩
 ·simp[Value.ownBlock]at a
 ·simp only[Value.ownBlock,Cd]at a;subst a;exact⟨b,lt_of_get c⟩
theorem UK{w w':Γ}{base e sz:Nat}{v:Δ}{n:Nat}{xs:List Δ}(h:w.ownsRow base e sz v n xs)(d:∀k,v.ownBlock=some k->w'.heap[k]?=w.heap[k]?):w'.ownsRow base e sz v n xs:=by
 refine⟨h.1,?_⟩;rcases h.2 with b|⟨g,cap,cur,rfl,a,c,r⟩
 ·exact .inl b
 ·exact .inr ⟨g,cap,cur,rfl,a,(d g rfl).trans c,r⟩
theorem WayA.keep{w w':Γ}{base:Nat}{v:Δ}{c:List Sp}(h:WayA w base v c)(l:Nt w w')(b:∀k,v.ownBlock=some k->w'.heap[k]?=w.heap[k]?):WayA w' base v c:=by
 obtain⟨ps,i,e,j,f⟩:=h;exact⟨ps,i,UK e b,λk cur T m a g=>j k cur T m a (by rw[<-b k a];exact g),λp d=>(f p d).nt l⟩
theorem WayA.own{w:Γ}{base:Nat}{v:Δ}{a:List Sp}(h:WayA w base v a):∀k,v.ownBlock=some k->base<=k/\k<w.heap.size:=by
 obtain⟨ps,c,b,d,e⟩:=h;exact SL b
theorem WayA.go{w w':Γ}{base:Nat}{v:Δ}{a:List Sp}(h:WayA w base v a)(b:Λ w w'):WayA w' base v a:=
 h.keep (Nt.below b) λk c=>b.block k (h.own k c).2
theorem WayA.nil(w:Γ)(base:Nat):WayA w base (ε) []:=⟨[],rfl,⟨rfl, .inl ⟨rfl,rfl⟩⟩,NuB.nil w,λp a=>by cases a⟩
theorem Xs:∃i,prog.info? 131=some i/\i.zero=some (γ #[ν,ι 0,β false])/\i.size=3/\i.bytes=32:=by
 have a:(prog.info? 131).map (λi=>(i.zero,i.size,i.bytes))=some (some (γ #[ν,ι 0,β false]),3,32):=by kernel_rfl
 cases b:prog.info? 131 with
 |none=>simp[b]at a
 |some i=>
  rw[b]at a;simp only[B7,Cd,C5]at a;exact⟨i,rfl,a.1,a.2.1,a.2.2⟩
theorem WayA.app{w:World}{base:Nat}{v:Value}{c:List Sp}(h:WayA w base v c){g:Nat}{u:Value}{s:Sp}(R:Rw g w #[u, .int .i64 ((s.l:Nat):Int), .bool s.c] 131)(r:ThA w s.t u)(U:c.length<=1000)(D:base<=w.heap.size):
 ∃v' w',(∀ty,(Builtin.append_ #[127,127] ty #[v, .slice (some ⟨g,0,none⟩) 1 1]).run prog w= .ok v' w')/\WayA w' base v' (c++[s])/\Below base w w'/\Nt w w'/\(∀k,k<w.heap.size->v.ownBlock≠some k->w'.heap[k]?=w.heap[k]?)/\w.heap.size<=w'.heap.size:=by
 obtain⟨ps,E,l,G,O⟩:=h;obtain⟨i,H,F,A,C⟩:=Xs;have S:ps.length=c.length:=by rw[<-E,AQ]
 have t:∀j x,(spc (u,s))[j]?=some x->w.cell? ((⟨g,0,none⟩:Addr).add j)=some x:=by
  intro j x a;rw[BO,A6,Aj _ _ _ _ _ _ R]
  match j with
  |0=>exact a
  |1=>exact a
  |2=>exact a
  |n+3=>simp[spc]at a
 have B:∀x∈spc (u,s),x.oneCell'=true:=by
  intro x a;simp only[spc,Ay,BN,Dn]at a;rcases a with rfl|rfl|rfl
  ·exact r.one
  ·rfl
  ·rfl
 have N:∀x∈spc (u,s),nU x:=by
  intro x a;simp only[spc,Ay,BN,Dn]at a;rcases a with rfl|rfl|rfl
  ·exact r.u8
  ·exact λ_ e=>by cases e
  ·exact λ_ e=>by cases e
 obtain⟨v',w',z,K,f,_⟩:=ET (P:=prog) w base 127 0 131 i _ 3 32 underlying127 H F A C rfl (by decide) v ps.length (ps.flatMap spc) l ⟨g,0,none⟩ 1 1 (spc (u,s)) rfl t B (by unfold maxLen;omega) (by omega) D;have L:Below base w w':=(Ac _ _).grown f D (λk m=>(SL l k m).1);have y:∀k,k<w.heap.size->v.ownBlock≠some k->w'.heap[k]?=w.heap[k]?:=λk m M=>f.block k m (Ne.symm M);have d:Nt w w':=Nt.of_obj λk o q J=>by
  by_cases e:v.ownBlock=some k
  ·exfalso;cases o with
   |cells cs T Q=>
    obtain⟨j,x,I⟩:=J;exact G k cs T Q e q _ (by rw[<-BB]at I;exact AL I) x rfl
   |_=>exact J
  ·exact(y k (lt_of_get q) e).trans q
 refine⟨v',w',λty=>z,⟨ps++[(u,s)],by rw[Bp,E];rfl,?_,?_,?_⟩,L,d,y,f.size⟩
 ·rw[Af,C7];simpa using K
 ·exact XaQ (ty:=0) underlying127 H F A C l G rfl t B N (by omega) (by unfold maxLen;omega) (by omega) z
 ·intro p b;rcases AP.1 b with b|b
  ·exact(O p b).nt d
  ·rw[Bz.1 b];exact r.nt d
theorem SM{w w':Γ}{v u r:Δ}{ρ:Φ}{o:Oper}(d:∀ty,(Builtin.append_ #[127,127] ty #[v,u]).run prog w= .ok r w')(x y:Operand)(c:o.op= .call {callee:= .builtin .append,args:=#[x,y],argTypes:=#[127,127]})(b:ρ x=v)(a:ρ y=u):(execOp ρ o).run prog w= .ok (.value r) w':=by
 unfold execOp;simp only[c,resolve,invoke,builtin,AO,AV,A4,BT,Bd,BY,b,a,d]
structure WayR(w:Γ)(a:Ω)(n c:Nat)(ws:List Sp):Prop where
 len:n=ws.length
 le:n<=c/\c<=maxLen
 row:∀j s,ws[j]?=some s->∃g off u,a=some ⟨g,off,none⟩/\w.rangeAt g (off+j*3) [u,ι ((s.l:Nat):Int),β s.c]/\ThA w s.t u
theorem Xae:∀(ps:List (Δ×Sp))(j:Nat)(p:Δ×Sp),ps[j]?=some p->∀i x,(spc p)[i]?=some x->(ps.flatMap spc)[j*3+i]?=some x
 |[],j,p,h=>by simp at h
 |y::r,0,p,h=>by
  intro i x a;have:y=p:=by simpa using h
  subst this;rw[Cp,Nat.zero_mul,A6,Bg (by have:=(Ar.1 a).1;exact this)];exact a
 |y::r,j+1,p,h=>by
  intro i x a;rw[Cp,Bn (by simp[spc];omega)];have:=Xae r j p (by simpa using h) i x a;rw[show(j+1)*3+i-(spc y).length=j*3+i by simp[spc];omega];exact this
theorem WayA.read{w:Γ}{base:Nat}{v:Δ}{d:List Sp}(h:WayA w base v d)(B:d.length<=1000):∃a c,v=σ a d.length c/\WayR w a d.length c d:=by
 obtain⟨ps,l,f,C,t⟩:=h;have n:ps.length=d.length:=by rw[<-l,AQ]
 rcases id f.2 with⟨r,E⟩|⟨g,cap,cur,rfl,y,D,z,m,A,u⟩
 ·have o:d=[]:=Aw (by omega);subst o;exact⟨none,0,by rw[r];rfl,rfl,⟨Ab _,A8 _⟩,λj s b=>by simp at b⟩
 ·refine⟨some ⟨g,0,none⟩,cap,by rw[n],rfl,⟨by omega,m⟩,λj s b=>?_⟩;rw[<-l,AZ]at b;cases e:ps[j]? with
  |none=>rw[e]at b;cases b
  |some p=>
   rw[e]at b;obtain rfl:p.2=s:=by simpa using b
   refine⟨g,0,p.1,rfl,λi x q=>?_,t p (AL e)⟩;have k:=f.cells (g:=g) rfl (j*3+i) x (Xae ps j p e i x q);rw[BO,A6]at k;rw[A6];exact k
def wkU(kn:Kn)(q:τ):Nat->Sp->List τ->List τ
 |0,_,us=>us
 |f+1,s,us=>match lookP kn s with
  |none=>us
  |some u=>match nextP q ⟨u,s.l,s.c⟩with
   |none=>lkU kn s us
   |some s2=>wkU kn q f s2 (lkU kn s us)
theorem Xt{kn:Kn}{s:Sp}{us:List τ}(h:lookP kn s=none):lkU kn s us=us:=by
 unfold lkU;cases a:s.t with
 |st d=>simp only;rw[h]
 |_=>rfl
structure WX where
 done:List Sp
 o:Option Sp
 vw:Δ
 us:List τ
def RWk(w:Γ)(g gK gU:Nat)(t0:Pt)(kn:Kn)(us:List τ)(r:Option (List Sp)):Δ->Γ->Prop:=λu w'=>PAt w' g gK gU t0 kn us/\(match r with
 |none=>u=θ #[ε,β false]
 |some ws=>∃a c,u=θ #[σ a ws.length c,β true]/\WayR w' a ws.length c ws)/\TU gU w w'
theorem TU.app{gU B:Nat}{w v v':Γ}(h:TU gU w v)(a:Below B v v')(f:w.heap.size<=B)(e:Nt v v')(c:v.heap.size<=v'.heap.size):TU gU w v':=
 ⟨⟨a.os.trans h.t.os,a.tape.trans h.t.tape,a.output.trans h.t.output,Au h.t.size c,λi d b=>(a.block i (by omega)).trans (h.t.block i d b)⟩,h.n.trans e⟩
def WkI(w:Γ)(g gK gU g7:Nat)(t0:Pt)(kn:Kn)(UW:List τ)(e:Ω)(m2 d2:Nat)(q:τ)(x:WX)(v:Γ):Prop:=
 TU gU w v/\PAt v g gK gU t0 kn x.us/\Sk An v e m2 d2 q/\WayA v (g7+1) x.vw x.done/\x.done.length<=q.length+1/\g7<v.heap.size/\(match x.o with
  |some s=>(∃u,Rw g7 v #[u,ι ((s.l:Nat):Int),β s.c] 131/\ThA v s.t u)/\Wg s.t s.l/\s.l<=q.length/\x.done.length<=s.l/\∃f,q.length+1<=s.l+f/\wayP kn t0 q=(walkP kn q f s).map (x.done++·)/\UW=wkU kn q f s x.us
  |none=>wayP kn t0 q=some x.done/\UW=x.us)
theorem SN{w0 w:Γ}{t:Pt}{u:Δ}(h:ThA w0 t u){ρ:Φ}{o:Oper}(x:Operand){l:Int}{b:Bool}(c:o.op= .buildSlice 127 1 #[(0,x)])(a:ρ x=γ #[u,ι l,β b]):(execOp ρ o).run prog w= .ok (.value (σ (some ⟨w.heap.size,0,none⟩) 1 1)) (w.alloc (.cells #[u,ι l,β b] 131)):=by
 unfold execOp;rw[c];simp only[BT,Bd,BY,a];cases t with
 |no=>rw[show u=ν from h];kernel_rfl
 |st d=>rw[h.1];kernel_rfl
 |leaf p x=>obtain⟨_,_,_,_,_,_,rfl,_⟩:=h;kernel_rfl
 |ext p t=>obtain⟨_,_,_,_,rfl,_⟩:=h;kernel_rfl
 |br k x=>obtain⟨_,_,_,_,rfl,_⟩:=h;kernel_rfl
theorem XbT{r:Option Nat}{m:Nat}{P:Program}{ds:List Deferred}{n:Nat}{Q:Exit->Act->Γ->Prop}{s:_root_.Go.Proofs.YtkdlocloepbmcaaGreat.Sta}{w:Γ}(k:Nat)(o:Oper)(cells:Ξ)(T:TypeId)(c:Nat)(d:∀fb,(execOp (ev (au P n k w s).e fb) o).run P w= .ok (.value (σ (some ⟨w.heap.size,0,none⟩) c c)) (w.alloc (.cells cells T)))(b:∀w' g,New w w' g cells T->Rw g w' cells T->HD r m P ds n Q (pv (au P n k w s) (σ (ζ g 0) c c)) w')(a:∀fb,ck P n fb k w s=some (au P n k w s,w,o,o.dst):=by intro _;kernel_rfl):HD r m P ds n Q s w:=
 Hx k o _ d (b _ _ ⟨rfl,rfl⟩ (New.row ⟨rfl,rfl⟩)) a
theorem walk_any{w:Γ}{g gK gU:Nat}{t0:Pt}{kn:Kn}{us:List τ}(a:PAt w g gK gU t0 kn us){e:Ω}{m2 d2:Nat}{q:τ}(m:Sk An w e m2 d2 q)(b4:m2<=64)(ak:nibs q):Calls prog 69 #[π g,σ e m2 d2] w λe w'=>∃v',e=ω v'/\RWk w g gK gU t0 kn (wkU kn q (q.length+1) ⟨t0,0,false⟩ us) (wayP kn t0 q) v' w':=by
 have b1:=m.len;have b8:=a.lt;have b0:=a.km.lt;have bx:=a.um.lt;have bh:=a.wg;obtain⟨UW,ap⟩:∃UW,wkU kn q (q.length+1) ⟨t0,0,false⟩ us=UW:=⟨_,rfl⟩;rw[ap];have n:Bl w w:=Bl.refl w;refine Ck func69 38 ?_;obtain⟨vt,bi,Q⟩:=a.row;refine Hl 16 bi 0 85 (vt)<|Hx 0 (og f69 2 4) (γ #[vt,ι 0,β false]) (λ_=>ol_build 131 _ rfl [(0,vt)] (by kernel_rfl) _ (Xf Q))<|Hn 0 (#[ν,ι 0,β false]) 131 ?_;intro w1 k D aq;refine Hy 0 (og f69 2 6) k (#[vt,ι 0,β false]) (λ_=>AM 131 _ _ _ _ _ 131 rfl (by kernel_rfl) (by kernel_rfl) aq (by kernel_rfl) (by kernel_rfl) (UC Q.one rfl rfl)) ?_;intro w5 ba;clear aq;replace D:=D.put ba;have ae:w.heap.size<=k:=by have:=n.size;have:=D.hg;omega
 replace n:=n.go D.below;replace m:=m.go D.below;replace a:=a.go D.below;replace Q:=Q.go D.below;have al:Rw k w5 (#[vt,ι 0,β false]) 131:=D.row;refine Ho (X:=WX) 5 (λx=>[(7,π k),(8,β x.o.isSome),(6,x.vw),(0,π g),(1,σ e m2 d2)]) (WkI w g gK gU k t0 kn UW e m2 d2 q) (λx=>match x.o with|some s=>q.length+1-s.l|none=>0) ⟨[],some ⟨t0,0,false⟩,ε,us⟩ ⟨TU.of n,a,m,WayA.nil _ _,by simp,al.lt,⟨_,al,Q⟩,bh,by simp,by simp,q.length+1,by simp,by show _=Option.map _ _;rw[show(λx=>[]++x:List Sp->List Sp)=id from rfl,Option.map_id];rfl,ap.symm⟩ ?_;clear n a m Q al;rintro⟨done,o,vw,Z⟩ v⟨n,a,m,h,b9,bw,hx⟩ I1 aw;simp only at*;cases o with
 |none=>
  obtain⟨z,B⟩:=hx;obtain⟨a9,c9,rfl,bn⟩:=h.read (by omega);refine Hr 20 (θ #[σ a9 done.length c9,β true]) ?_;rw[z,B];exact⟨_,rfl,a,⟨_,_,rfl,bn⟩,n⟩
 |some c=>
  obtain⟨⟨u1,d,C⟩,a8,bl,bv,f,hf,z,B⟩:=hx;obtain⟨f,rfl⟩:∃f2,f=f2+1:=⟨f-1,by omega⟩;rw[walkP]at z;rw[wkU]at B;cases K:lookP kn c with
  |none=>
   simp only[K]at z B;rw[Option.map_none]at z;refine Hx 13 (og f69 4 1) (γ (#[u1,ι ((c.l:Nat):Int),β c.c])) (λ_=>BW 131 _ _ _ _ _ _ rfl (by kernel_rfl) d υ131 rfl (by kernel_rfl))<|Hc 0 (R:=RLk v g gK gU t0 kn Z none) (by have:=Hk (s:=c) a C (by omega);rw[K,Xt K]at this;exact this) ?_;rintro _ w9⟨az,rfl,ai⟩;replace a:=az;replace h:=h.keep ai.n (λi j=>ai.t.block i (h.own i j).2 (by have:=(h.own i j).1;omega));refine Hr 27 (θ #[ε,β false]) ?_;rw[z,B];replace n:=n.trans ai;exact⟨_,rfl,a,rfl,n⟩
  |some A=>
   simp only[K]at z B;have bm:=JA a.ok a8 K;cases aa:nextP q ⟨A,c.l,c.c⟩with
   |none=>
    simp only[aa]at z B;rw[B7]at z;refine Hx 13 (og f69 4 1) (γ (#[u1,ι ((c.l:Nat):Int),β c.c])) (λ_=>BW 131 _ _ _ _ _ _ rfl (by kernel_rfl) d υ131 rfl (by kernel_rfl))<|Hc 0 (R:=RLk v g gK gU t0 kn (lkU kn c Z) (some A)) (by have:=Hk (s:=c) a C (by omega);rw[K]at this;exact this) ?_;rintro _ cc⟨a1,⟨P,rfl,p⟩,N⟩;replace a:=a1;replace h:=h.keep N.n (λi j=>N.t.block i (h.own i j).2 (by have:=(h.own i j).1;omega));replace d:=d.past N.t (by omega);refine Ha 21 (og f69 7 2) k (0) (P) (λ_=>ol_setC 85 _ _ k _ _ 131 _ d rfl (by kernel_rfl) (by kernel_rfl) (by show 0<3;omega) p.cells p.one (by kernel_rfl)) ?_;intro b5 F;replace C:=C.nt N.n;have U:=Nt.rows d (Kc C (λ_ e=>by cases e) (λ_ e=>by cases e)) F.touch;replace a:=a.keep U (F.touch.block _ a.lt (by omega)) (F.touch.block _ a.km.lt (by omega)) (a.um.keep (F.touch.block _ a.um.lt (by omega)));replace h:=h.keep U (λi j=>F.touch.block i (h.own i j).2 (by have:=(h.own i j).1;omega));replace d:=d.set (cells':=(#[P,ι ((c.l:Nat):Int),β c.c])) F (by kernel_rfl);refine Hx 5 (og f69 8 1) (γ (#[P,ι ((c.l:Nat):Int),β c.c])) (λ_=>BW 131 _ _ _ _ _ _ rfl (by kernel_rfl) d υ131 rfl (by kernel_rfl)) ?_;replace p:=p.nt U;refine XbT 0 (og f69 8 2) (#[P,ι ((c.l:Nat):Int),β c.c]) 131 1 (λ_=>SN p (l:=((c.l:Nat):Int)) (b:=c.c) _ rfl (by kernel_rfl)) ?_;intro bf bz E a2;have aj:k+1<=bf.heap.size:=(by have:=d.lt;have:=E.below.size;omega);replace h:=h.go E.below;replace p:=p.go E.below;obtain⟨ao,av,a4,a0,W,ac,bu,ax⟩:=h.app (s:=⟨A,c.l,c.c⟩) a2 p (by omega) aj;refine Hx 0 (og f69 8 3) ao (λ_=>SM a4 _ _ rfl (by kernel_rfl) (by kernel_rfl)) ?_;replace a:=a.go E.below;replace a:=a.keep ac (W.block _ (by omega)) (W.block _ (by omega)) (a.um.keep (W.block _ (by omega)));replace h:=a0;replace d:=d.go E.below;replace d:Rw k av (#[P,ι ((c.l:Nat):Int),β c.c]) 131:=(W.block k (by omega)).trans d;refine Hx 4 (og f69 9 0) (γ (#[P,ι ((c.l:Nat):Int),β c.c])) (λ_=>BW 131 _ _ _ _ _ _ rfl (by kernel_rfl) d υ131 rfl (by kernel_rfl)) ?_;replace m:=(((m.nt N.n).nt U).go E.below).nt ac;replace p:=p.nt ac;refine Hc 1 (R:=RNx av none) (by have:=PZ (t:=A) (l:=c.l) (cb:=c.c) p m (by omega) (by omega) ak;rw[aa]at this;exact this) ?_;rintro _ b7⟨rfl,M⟩;replace d:=d.go M;refine Hy 3 (og f69 9 6) k (#[ν,ι 0,β false]) (λ_=>AM 131 _ _ _ _ _ 131 rfl (by kernel_rfl) (by kernel_rfl) d (by kernel_rfl) (by kernel_rfl) (by kernel_rfl)) ?_;intro bg G;replace p:=p.go M;have ab:=Nt.rows d (Kc p (λ_ e=>by cases e) (λ_ e=>by cases e)) G.touch;replace a:=a.go M;replace a:=a.keep ab (G.touch.block _ a.lt (by omega)) (G.touch.block _ a.km.lt (by omega)) (a.um.keep (G.touch.block _ a.um.lt (by omega)));replace h:=h.go M;replace h:=h.keep ab (λi j=>G.touch.block i (h.own i j).2 (by have:=(h.own i j).1;omega));replace d:Rw k bg (#[ν,ι 0,β false]) 131:=G.row d;replace n:=(((((n.trans N).tou F.touch ae U).go E.below).app W (by omega) ac ax).go M).tou G.touch ae ab;replace m:=(m.go M).nt ab;exact aw 3 ⟨(done++[⟨A,c.l,c.c⟩]),none,ao,lkU kn c Z⟩ ⟨n,a,m,h,by simp only[Af,CG];omega,d.lt,z,B⟩ (by show 0<q.length+1-c.l;omega) (λ_=>by kernel_rfl)
   |some y=>
    simp only[aa]at z B;obtain⟨bb,bc,bq⟩:=Ox (s:=⟨A,c.l,c.c⟩) bm bl aa ak;refine Hx 13 (og f69 4 1) (γ (#[u1,ι ((c.l:Nat):Int),β c.c])) (λ_=>BW 131 _ _ _ _ _ _ rfl (by kernel_rfl) d υ131 rfl (by kernel_rfl))<|Hc 0 (R:=RLk v g gK gU t0 kn (lkU kn c Z) (some A)) (by have:=Hk (s:=c) a C (by omega);rw[K]at this;exact this) ?_;rintro _ b6⟨a7,⟨S,rfl,u⟩,O⟩;replace a:=a7;replace h:=h.keep O.n (λi j=>O.t.block i (h.own i j).2 (by have:=(h.own i j).1;omega));replace d:=d.past O.t (by omega);refine Ha 21 (og f69 7 2) k (0) (S) (λ_=>ol_setC 85 _ _ k _ _ 131 _ d rfl (by kernel_rfl) (by kernel_rfl) (by show 0<3;omega) u.cells u.one (by kernel_rfl)) ?_;intro ca I;replace C:=C.nt O.n;have V:=Nt.rows d (Kc C (λ_ e=>by cases e) (λ_ e=>by cases e)) I.touch;replace a:=a.keep V (I.touch.block _ a.lt (by omega)) (I.touch.block _ a.km.lt (by omega)) (a.um.keep (I.touch.block _ a.um.lt (by omega)));replace h:=h.keep V (λi j=>I.touch.block i (h.own i j).2 (by have:=(h.own i j).1;omega));replace d:=d.set (cells':=(#[S,ι ((c.l:Nat):Int),β c.c])) I (by kernel_rfl);refine Hx 5 (og f69 8 1) (γ (#[S,ι ((c.l:Nat):Int),β c.c])) (λ_=>BW 131 _ _ _ _ _ _ rfl (by kernel_rfl) d υ131 rfl (by kernel_rfl)) ?_;replace u:=u.nt V;refine XbT 0 (og f69 8 2) (#[S,ι ((c.l:Nat):Int),β c.c]) 131 1 (λ_=>SN u (l:=((c.l:Nat):Int)) (b:=c.c) _ rfl (by kernel_rfl)) ?_;intro bo b3 J a6;have aj:k+1<=bo.heap.size:=(by have:=d.lt;have:=J.below.size;omega);replace h:=h.go J.below;replace u:=u.go J.below;obtain⟨am,ar,a3,a5,Y,ad,bp,ay⟩:=h.app (s:=⟨A,c.l,c.c⟩) a6 u (by omega) aj;refine Hx 0 (og f69 8 3) am (λ_=>SM a3 _ _ rfl (by kernel_rfl) (by kernel_rfl)) ?_;replace a:=a.go J.below;replace a:=a.keep ad (Y.block _ (by omega)) (Y.block _ (by omega)) (a.um.keep (Y.block _ (by omega)));replace h:=a5;replace d:=d.go J.below;replace d:Rw k ar (#[S,ι ((c.l:Nat):Int),β c.c]) 131:=(Y.block k (by omega)).trans d;refine Hx 4 (og f69 9 0) (γ (#[S,ι ((c.l:Nat):Int),β c.c])) (λ_=>BW 131 _ _ _ _ _ _ rfl (by kernel_rfl) d υ131 rfl (by kernel_rfl)) ?_;replace m:=(((m.nt O.n).nt V).go J.below).nt ad;replace u:=u.nt ad;refine Hc 1 (R:=RNx ar (some y)) (by have:=PZ (t:=A) (l:=c.l) (cb:=c.c) u m (by omega) (by omega) ak;rw[aa]at this;exact this) ?_;rintro _ b2⟨⟨ah,rfl,af⟩,L⟩;refine Hp 0 (θ #[γ #[ah,ι ((y.l:Nat):Int),β y.c],β true])<|Hp 0 (γ #[ah,ι ((y.l:Nat):Int),β y.c]) ?_;replace d:=d.go L;refine Hy 1 (og f69 9 6) k (#[ah,ι ((y.l:Nat):Int),β y.c]) (λ_=>AM 131 _ _ _ _ _ 131 rfl (by kernel_rfl) (by kernel_rfl) d (by kernel_rfl) (by kernel_rfl) (UC af.one rfl rfl)) ?_;intro bk H;replace u:=u.go L;have T:=Nt.rows d (Kc u (λ_ e=>by cases e) (λ_ e=>by cases e)) H.touch;replace a:=a.go L;replace a:=a.keep T (H.touch.block _ a.lt (by omega)) (H.touch.block _ a.km.lt (by omega)) (a.um.keep (H.touch.block _ a.um.lt (by omega)));replace h:=h.go L;replace h:=h.keep T (λi j=>H.touch.block i (h.own i j).2 (by have:=(h.own i j).1;omega));replace d:Rw k bk (#[ah,ι ((y.l:Nat):Int),β y.c]) 131:=H.row d;have bj:wayP kn t0 q=(walkP kn q f y).map ((done++[⟨A,c.l,c.c⟩])++·):=by
     rw[z];cases walkP kn q f y with
     |none=>rfl
     |some r=>simp
    replace n:=(((((n.trans O).tou I.touch ae V).go J.below).app Y (by omega) ad ay).go L).tou H.touch ae T;replace m:=(m.go L).nt T;replace af:=af.nt T;exact aw 3 ⟨(done++[⟨A,c.l,c.c⟩]),some y,am,lkU kn c Z⟩ ⟨n,a,m,h,by simp only[Af,CG];omega,d.lt,⟨_,d,af⟩,bb,bc,by simp only[Af,CG]at*;omega,f,by simp only at*;omega,bj,B⟩ (by show q.length+1-y.l<q.length+1-c.l;simp only at*;omega) (λ_=>by kernel_rfl)
theorem Xb2{kn:Kn}{k:Nat->Pt}{x:τ}{l:Nat}(h:kidsN k 16=0):nrmP kn k x l=some (leaf [] x):=by unfold nrmP;rw[Ai h]
theorem Xaf{kn:Kn}{k:Nat->Pt}{x:τ}{l:Nat}(h:kidsN k 16≠0)(a:1<kidsN k 16∨0<x.length):nrmP kn k x l=some (br k x):=by unfold nrmP;rw[Ae h,Ai a]
theorem Xb3{kn:Kn}{k:Nat->Pt}{x:τ}{l:Nat}(h:kidsN k 16≠0)(a:¬1<kidsN k 16)(b:¬0<x.length):nrmP kn k x l=match lookP kn ⟨k (lastN k 16),l+1,false⟩with
 |none=>none
 |some u=>some (und [((lastN k 16:Nat):Int)] (if isBr u then k (lastN k 16)else u)):=by
 unfold nrmP;rw[Ae h,Ae (λq=>q.elim a b)];cases lookP kn ⟨k (lastN k 16),l+1,false⟩<;>rfl
def nrmU(kn:Kn)(k:Nat->Pt)(x:τ)(l:Nat)(us:List τ):List τ:=if kidsN k 16=0 then us else if 1<kidsN k 16∨0<x.length then us else lkU kn ⟨k (lastN k 16),l+1,false⟩ us
theorem XaR{kn:Kn}{k:Nat->Pt}{x:τ}{l:Nat}{us:List τ}(h:kidsN k 16=0):nrmU kn k x l us=us:=by unfold nrmU;rw[Ai h]
theorem Xu{kn:Kn}{k:Nat->Pt}{x:τ}{l:Nat}{us:List τ}(h:kidsN k 16≠0)(a:1<kidsN k 16∨0<x.length):nrmU kn k x l us=us:=by unfold nrmU;rw[Ae h,Ai a]
theorem XaS{kn:Kn}{k:Nat->Pt}{x:τ}{l:Nat}{us:List τ}(h:kidsN k 16≠0)(a:¬1<kidsN k 16)(b:¬0<x.length):nrmU kn k x l us=lkU kn ⟨k (lastN k 16),l+1,false⟩ us:=by unfold nrmU;rw[Ae h,Ae (λq=>q.elim a b)]
def woU(kn:Kn)(s:Sp)(us:List τ):List τ:=match s.t with
 |br k _=>nrmU kn k [] s.l us
 |_=>us
theorem normal_any{w:Γ}{g gK gU:Nat}{t0:Pt}{kn:Kn}{us:List τ}(b:PAt w g gK gU t0 kn us){vs:Nat->Δ}{k:Nat->Pt}{a:Ω}{n c l:Nat}{x:τ}(o:KA w k vs)(q:Sk An w a n c x)(J:n<=256)(hl:l<=64)(V:∀i,i<16->Wg (k i) (l+1)):Calls prog 111 #[π g,γ (brc vs (σ a n c)),ι (l:Int)] w λe w'=>∃v',e=ω v'/\RNm w g gK gU t0 kn (nrmU kn k x l us) (nrmP kn k x l) v' w':=by
 have a0:=b.lt;have av:=b.km.lt;have ap:=b.um.lt;have ax:=q.len;have d:Bl w w:=Bl.refl w;refine Ck func111 67<|Hn 2 (brc vs (σ a n c)) 160 ?_;intro w1 p f m;have am:w.heap.size<=p:=by have:=d.size;have:=f.hg;omega
 refine Hx 14 (og f111 2 1) (γ (bra vs)) (λ_=>ol_arr m _ rfl (by kernel_rfl))<|Ho (X:=Nat) 4 (λj=>[(16,ι (j:Int)),(8,ι ((kidsN k j:Nat):Int)),(9,ι ((lastN k j:Nat):Int)),(15,γ (bra vs)),(4,π p),(6,ν),(0,π g),(2,ι (l:Int))]) (λj v=>v=w1/\j<=16) (λj=>16-j) 0 ⟨rfl,A8 _⟩ ?_;rintro j v⟨Y,hj⟩ I1 U;rw[Y];clear Y v;by_cases Q:j<16
 ·skip
  have ay:kidsN k j<=j:=kids_le k j;refine Ht 2 ((j:Int)<(16:Int))<|Hx 11 (og f111 4 1) (vs j) (λ_=>ol_ixa _ _ vs j Q rfl (by kernel_rfl) (by kernel_rfl)) ?_;replace o:=o.go f.below;refine Hx 7 (og f111 5 1) (β (!(k j).isNo)) (λ_=>ol_nen (o j Q) _ _ rfl (by kernel_rfl) (by kernel_rfl)) ?_;cases C:(k j).isNo with
  |true=>
   have I:kidsN k (j+1)=kidsN k j:=(by simp[kidsN,C]);have H:lastN k (j+1)=lastN k j:=(by simp[lastN,C]);rw[<-I,<-H];refine Hi 7 ((j:Int)+1) ((j+1:Nat):Int) ?_;exact U 2 (j+1) ⟨rfl,by omega⟩ (by omega) (λ_=>by kernel_rfl)
  |false=>
   have I:kidsN k (j+1)=kidsN k j+1:=(by simp[kidsN,C]);have H:lastN k (j+1)=j:=(by simp[lastN,C]);refine Hw 5 (ι (IntKind.i64.wrap (((kidsN k j:Nat):Int)+1))) (ι ((kidsN k (j+1):Nat):Int)) (Ao (Value.int .i64) (by rw[Cy (by omega) (by omega),I];rfl))<|Hw 0 (ι (j:Int)) (ι ((lastN k (j+1):Nat):Int)) (by rw[H])<|Hi 6 ((j:Int)+1) ((j+1:Nat):Int) ?_;exact U 2 (j+1) ⟨rfl,by omega⟩ (by omega) (λ_=>by kernel_rfl)
 obtain rfl:j=16:=by omega
 refine Hb 2 (decide (((16:Nat):Int)<(16:Int))) false (rfl) ?_;have ao:=kids_le k 16;by_cases r:kidsN k 16=0
 ·skip
  rw[Xb2 r,XaR r];refine Hq 13 ((kidsN k 16:Nat):Int) (0:Int)<|Hl 6 m 16 32 (σ a n c)<|Hr 8 (θ #[.iface 157 (γ #[ε,σ a n c]),β true]) ?_;replace d:=d.go f.below;replace b:=b.go f.below;replace q:=q.go f.below;exact⟨_,rfl,b,⟨_,rfl,⟨_,_,_,_,_,_,rfl,Sk.nil _ _,q,J,by omega⟩⟩,TU.of d⟩
 by_cases F:1<kidsN k 16
 ·skip
  rw[Xaf r (.inl F),Xu r (.inl F)];refine Hz 13 ((kidsN k 16:Nat):Int) (0:Int)<|Ht 9 (((kidsN k 16:Nat):Int)>(1:Int))<|Hx 11 (og f111 11 0) (γ (brc vs (σ a n c))) (λ_=>BW 160 _ _ _ _ _ _ rfl (by kernel_rfl) m υ160 rfl (by kernel_rfl))<|Hr 7 (θ #[.iface 160 (γ (brc vs (σ a n c))),β true]) ?_;replace d:=d.go f.below;replace b:=b.go f.below;replace o:=o.go f.below;replace q:=q.go f.below;exact⟨_,rfl,b,⟨_,rfl,⟨_,_,_,_,rfl,o,q,J⟩⟩,TU.of d⟩
 by_cases D:0<x.length
 ·skip
  rw[Xaf r (.inr D),Xu r (.inr D)];refine Hz 13 ((kidsN k 16:Nat):Int) (0:Int)<|Hf 9 (((kidsN k 16:Nat):Int)>(1:Int))<|Hl 2 m 16 32 (σ a n c)<|Ht 1 ((n:Int)>(0:Int))<|Hx 6 (og f111 11 0) (γ (brc vs (σ a n c))) (λ_=>BW 160 _ _ _ _ _ _ rfl (by kernel_rfl) m υ160 rfl (by kernel_rfl))<|Hr 7 (θ #[.iface 160 (γ (brc vs (σ a n c))),β true]) ?_;replace d:=d.go f.below;replace b:=b.go f.below;replace o:=o.go f.below;replace q:=q.go f.below;exact⟨_,rfl,b,⟨_,rfl,⟨_,_,_,_,rfl,o,q,J⟩⟩,TU.of d⟩
 rw[Xb3 r F D,XaS r F D];have h:=lastN_lt k 16 (by omega);obtain⟨L,hL⟩:∃L,lastN k 16=L:=⟨_,rfl⟩;have O:=Mh k 16 (by omega);rw[hL]at h O⊢;replace o:=o.go f.below;have u:=o L h;cases B:lookP kn ⟨k L,l+1,false⟩with
 |none=>
  refine Hz 13 ((kidsN k 16:Nat):Int) (0:Int)<|Hf 9 (((kidsN k 16:Nat):Int)>(1:Int))<|Hl 2 m 16 32 (σ a n c)<|Hf 1 ((n:Int)>(0:Int))<|Hx 11 (og f111 12 3) (ψ p (0+L*1)) (λ_=>ol_indexK (kd:= .i64) 158 _ _ p 0 L 16 1 85 rfl (by kernel_rfl) (by kernel_rfl) h (by omega) υ158 (by kernel_rfl))<|Hx 0 (og f111 12 4) (vs L) (λ_=>AY 85 _ ⟨p,0+L*1,none⟩ _ _ rfl (by kernel_rfl) (by rw[A6,BE,Aj _ _ _ _ _ _ m];exact EQ _ _ _ h) υ85 rfl)<|Hw 1 (ι (IntKind.i64.wrap ((l:Int)+(1:Int)))) (ι ((l+1:Nat):Int)) (Ao (Value.int .i64) ((Cy (by omega) (by omega)).trans (by omega)))<|Hx 0 (og f111 12 7) (γ #[vs L,ι ((l+1:Nat):Int),β false]) (λ_=>ol_build 131 _ rfl [(0,vs L),(1,ι ((l+1:Nat):Int)),(2,β false)] (by kernel_rfl) _ (KU u _ _)) ?_;replace b:=b.go f.below;refine Hc 0 (R:=RLk w1 g gK gU t0 kn _ none) (by have:=Hk (s:=⟨k L,l+1,false⟩) b u (by simp only;omega);rw[B]at this;exact this) ?_;rintro _ w5⟨ad,rfl,al⟩;replace d:=d.go f.below;replace d:TU gU w w5:=(TU.of d).trans al;replace b:=ad;refine Hr 23 (θ #[ν,β false]) ?_;exact⟨_,rfl,b,rfl,d⟩
 |some E=>
  replace b:=b.go f.below;have T:=JA b.ok (s:=⟨k L,l+1,false⟩) (V L h) B;have ak:=SG b.ok (s:=⟨k L,l+1,false⟩) O B;have a1:l+1<=64:=Xaa ak T;refine Hz 13 ((kidsN k 16:Nat):Int) (0:Int)<|Hf 9 (((kidsN k 16:Nat):Int)>(1:Int))<|Hl 2 m 16 32 (σ a n c)<|Hf 1 ((n:Int)>(0:Int))<|Hx 11 (og f111 12 3) (ψ p (0+L*1)) (λ_=>ol_indexK (kd:= .i64) 158 _ _ p 0 L 16 1 85 rfl (by kernel_rfl) (by kernel_rfl) h (by omega) υ158 (by kernel_rfl))<|Hx 0 (og f111 12 4) (vs L) (λ_=>AY 85 _ ⟨p,0+L*1,none⟩ _ _ rfl (by kernel_rfl) (by rw[A6,BE,Aj _ _ _ _ _ _ m];exact EQ _ _ _ h) υ85 rfl)<|Hw 1 (ι (IntKind.i64.wrap ((l:Int)+(1:Int)))) (ι ((l+1:Nat):Int)) (Ao (Value.int .i64) ((Cy (by omega) (by omega)).trans (by omega)))<|Hx 0 (og f111 12 7) (γ #[vs L,ι ((l+1:Nat):Int),β false]) (λ_=>ol_build 131 _ rfl [(0,vs L),(1,ι ((l+1:Nat):Int)),(2,β false)] (by kernel_rfl) _ (KU u _ _))<|Hc 0 (R:=RLk w1 g gK gU t0 kn _ (some E)) (by have:=Hk (s:=⟨k L,l+1,false⟩) b u (by simp only;omega);rw[B]at this;exact this) ?_;rintro _ W⟨ai,⟨aw,rfl,A⟩,G⟩;replace d:=d.go f.below;replace d:TU gU w W:=(TU.of d).trans G;replace b:=ai;refine Hc 21 (R:=RVl W (β E.isBr)) (PW A) ?_;rintro _ ar⟨rfl,t⟩;cases M:(E.isBr)with
  |true=>
   refine Hx 6 (og f111 16 2) (ψ p (0+L*1)) (λ_=>ol_indexK (kd:= .i64) 158 _ _ p 0 L 16 1 85 rfl (by kernel_rfl) (by kernel_rfl) h (by omega) υ158 (by kernel_rfl)) ?_;replace m:=(m.past G.t (by omega)).go t;refine Hx 0 (og f111 16 3) (vs L) (λ_=>AY 85 _ ⟨p,0+L*1,none⟩ _ _ rfl (by kernel_rfl) (by rw[A6,BE,Aj _ _ _ _ _ _ m];exact EQ _ _ _ h) υ85 rfl)<|Hw 7 (η (IntKind.u8.wrap (L:Int))) (η (L:Int)) (Ao (Value.int .u8) (wrap8 h))<|M6 0 #[η (L:Int)] 5 1 ?_;intro S af z _;have ac:Sk An S (ζ af 0) 1 1 [(L:Int)]:=N9 (by omega) z (λ_ _=>trivial);replace u:=((u.nt G.n).go t).go z.below;refine Hc 0 (R:=RTh S (und [(L:Int)] (k L))) (under_any (l:=l+1) u (V L h) ac (by omega)) ?_;rintro ah aq⟨Z,K⟩;refine Hr 5 (θ #[ah,β true]) ?_;simp only[M,if_true];replace d:=((d.go t).go z.below).go K;replace b:=((b.go t).go z.below).go K;exact⟨_,rfl,b,⟨_,rfl,Z⟩,d⟩
  |false=>
   refine Hw 9 (η (IntKind.u8.wrap (L:Int))) (η (L:Int)) (Ao (Value.int .u8) (wrap8 h))<|M6 0 #[η (L:Int)] 5 1 ?_;intro P ae y _;have ab:Sk An P (ζ ae 0) 1 1 [(L:Int)]:=N9 (by omega) y (λ_ _=>trivial);replace A:=(A.go t).go y.below;refine Hc 0 (R:=RTh P (und [(L:Int)] E)) (under_any (l:=l+1) A T ab (by omega)) ?_;rintro aj az⟨aa,N⟩;refine Hr 5 (θ #[aj,β true]) ?_;simp only[M,BG,Dm];replace d:=((d.go t).go y.below).go N;replace b:=((b.go t).go y.below).go N;exact⟨_,rfl,b,⟨_,rfl,aa⟩,d⟩
theorem Xb4{w:Γ}{l:Nat}{cb:Bool}{g gK gU:Nat}{t0:Pt}{kn:Kn}{us:List τ}(b:PAt w g gK gU t0 kn us):Calls prog 81 #[π g,γ #[ν,ι (l:Int),β cb]] w λe w'=>∃v',e=ω v'/\RNm w g gK gU t0 kn us (some no) v' w':=by
 have r:=b.lt;have s:=b.km.lt;have t:=b.um.lt;have c:Bl w w:=Bl.refl w;refine Ck func81 24<|Hn 2 (#[ν,ι (l:Int),β cb]) 131 ?_;intro w1 j h d;have q:w.heap.size<=j:=by have:=c.size;have:=h.hg;omega
 refine Hl 7 d 0 85 (ν)<|Hn 4 (brc (λ_=>ν) (ε)) 160 ?_;intro u f a i;refine Hy 0 (og f81 1 7) f (brc (λ_=>ν) (ε)) (λ_=>AM 160 _ _ _ _ _ 160 rfl (by kernel_rfl) (by kernel_rfl) i (by kernel_rfl) (by kernel_rfl) (CV (KA.none w))) ?_;intro m k;clear i;replace a:=a.put k;have n:j<f:=by have:=d.lt;have:=a.hg;omega
 replace c:=c.go h.below;have p:w.heap.size<=f:=by have:=c.size;have:=a.hg;omega
 replace c:=c.go a.below;replace b:=b.go h.below;replace b:=b.go a.below;replace d:=d.go a.below;have o:Rw f m (brc (λ_=>ν) (ε)) 160:=a.row;refine Hr 19 (θ #[ν,β true]) ?_;exact⟨_,rfl,b,⟨_,rfl,rfl⟩,TU.of c⟩
theorem Xb5{w:Γ}{d:τ}{l:Nat}{cb:Bool}{g gK gU:Nat}{t0:Pt}{kn:Kn}{us:List τ}(b:PAt w g gK gU t0 kn us)(hd:d.length=32):Calls prog 81 #[π g,γ #[.iface 88 (γ (B8 d)),ι (l:Int),β cb]] w λe w'=>∃v',e=ω v'/\RNm w g gK gU t0 kn us (some no) v' w':=by
 have s:=b.lt;have t:=b.km.lt;have u:=b.um.lt;have c:Bl w w:=Bl.refl w;refine Ck func81 24<|Hn 2 (#[.iface 88 (γ (B8 d)),ι (l:Int),β cb]) 131 ?_;intro w1 k i f;have r:w.heap.size<=k:=by have:=c.size;have:=i.hg;omega
 refine Hl 7 f 0 85 (.iface 88 (γ (B8 d)))<|Hn 4 (brc (λ_=>ν) (ε)) 160 ?_;intro v h a j;refine Hy 0 (og f81 1 7) h (brc (λ_=>ν) (ε)) (λ_=>AM 160 _ _ _ _ _ 160 rfl (by kernel_rfl) (by kernel_rfl) j (by kernel_rfl) (by kernel_rfl) (CV (KA.none w))) ?_;intro n m;clear j;replace a:=a.put m;have o:k<h:=by have:=f.lt;have:=a.hg;omega
 replace c:=c.go i.below;have q:w.heap.size<=h:=by have:=c.size;have:=a.hg;omega
 replace c:=c.go a.below;replace b:=b.go i.below;replace b:=b.go a.below;replace f:=f.go a.below;have p:Rw h n (brc (λ_=>ν) (ε)) 160:=a.row;refine Hr 19 (θ #[ν,β true]) ?_;exact⟨_,rfl,b,⟨_,rfl,rfl⟩,TU.of c⟩
theorem Z1{w:Γ}{a b:Ω}{n c m d:Nat}{p x:τ}{l:Nat}{cb:Bool}{g gK gU:Nat}{t0:Pt}{kn:Kn}{us:List τ}(h:PAt w g gK gU t0 kn us)(o:Sk An w a n c p)(r:Sk An w b m d x)(G:m<=256)(F:n<=140737488351232):Calls prog 81 #[π g,γ #[.iface 157 (γ #[σ a n c,σ b m d]),ι (l:Int),β cb]] w λe w'=>∃v',e=ω v'/\RNm w g gK gU t0 kn us (some no) v' w':=by
 have C:=h.lt;have D:=h.km.lt;have E:=h.um.lt;have i:Bl w w:=Bl.refl w;refine Ck func81 24<|Hn 2 (#[.iface 157 (γ #[σ a n c,σ b m d]),ι (l:Int),β cb]) 131 ?_;intro w1 t j k;have B:w.heap.size<=t:=by have:=i.size;have:=j.hg;omega
 refine Hl 7 k 0 85 (.iface 157 (γ #[σ a n c,σ b m d]))<|Hn 4 (brc (λ_=>ν) (ε)) 160 ?_;intro H q f s;refine Hy 0 (og f81 1 7) q (brc (λ_=>ν) (ε)) (λ_=>AM 160 _ _ _ _ _ 160 rfl (by kernel_rfl) (by kernel_rfl) s (by kernel_rfl) (by kernel_rfl) (CV (KA.none w))) ?_;intro v u;clear s;replace f:=f.put u;have y:t<q:=by have:=k.lt;have:=f.hg;omega
 replace i:=i.go j.below;have A:w.heap.size<=q:=by have:=i.size;have:=f.hg;omega
 replace i:=i.go f.below;replace o:=o.go j.below;replace o:=o.go f.below;replace r:=r.go j.below;replace r:=r.go f.below;replace h:=h.go j.below;replace h:=h.go f.below;replace k:=k.go f.below;have z:Rw q v (brc (λ_=>ν) (ε)) 160:=f.row;refine Hr 19 (θ #[ν,β true]) ?_;exact⟨_,rfl,h,⟨_,rfl,rfl⟩,TU.of i⟩
theorem XaT{w:Γ}{a:Ω}{n c:Nat}{u:Δ}{p:τ}{t:Pt}{l:Nat}{cb:Bool}{g gK gU:Nat}{t0:Pt}{kn:Kn}{us:List τ}(d:PAt w g gK gU t0 kn us)(j:Sk An w a n c p)(D:n<=140737488351232)(m:ThA w t u):Calls prog 81 #[π g,γ #[.iface 167 (γ #[σ a n c,u]),ι (l:Int),β cb]] w λe w'=>∃v',e=ω v'/\RNm w g gK gU t0 kn us (some no) v' w':=by
 have A:=d.lt;have B:=d.km.lt;have C:=d.um.lt;have f:Bl w w:=Bl.refl w;refine Ck func81 24<|Hn 2 (#[.iface 167 (γ #[σ a n c,u]),ι (l:Int),β cb]) 131 ?_;intro w1 q h i;have z:w.heap.size<=q:=by have:=f.size;have:=h.hg;omega
 refine Hl 7 i 0 85 (.iface 167 (γ #[σ a n c,u]))<|Hn 4 (brc (λ_=>ν) (ε)) 160 ?_;intro E k b o;refine Hy 0 (og f81 1 7) k (brc (λ_=>ν) (ε)) (λ_=>AM 160 _ _ _ _ _ 160 rfl (by kernel_rfl) (by kernel_rfl) o (by kernel_rfl) (by kernel_rfl) (CV (KA.none w))) ?_;intro s r;clear o;replace b:=b.put r;have v:q<k:=by have:=i.lt;have:=b.hg;omega
 replace f:=f.go h.below;have y:w.heap.size<=k:=by have:=f.size;have:=b.hg;omega
 replace f:=f.go b.below;replace j:=j.go h.below;replace j:=j.go b.below;replace m:=m.go h.below;replace m:=m.go b.below;replace d:=d.go h.below;replace d:=d.go b.below;replace i:=i.go b.below;have x:Rw k s (brc (λ_=>ν) (ε)) 160:=b.row;refine Hr 19 (θ #[ν,β true]) ?_;exact⟨_,rfl,d,⟨_,rfl,rfl⟩,TU.of f⟩
theorem Xb6{w:Γ}{vs:Nat->Δ}{k:Nat->Pt}{a:Ω}{n c:Nat}{x:τ}{l:Nat}{cb:Bool}{g gK gU:Nat}{t0:Pt}{kn:Kn}{us:List τ}(b:PAt w g gK gU t0 kn us)(f:KA w k vs)(v:Sk An w a n c x)(V:n<=256)(M:l<=64)(L:∀i,i<16->Wg (k i) (l+1)):Calls prog 81 #[π g,γ #[.iface 160 (γ (brc vs (σ a n c))),ι (l:Int),β cb]] w λe w'=>∃v',e=ω v'/\RNm w g gK gU t0 kn (nrmU kn k [] l us) (nrmP kn k [] l) v' w':=by
 have T:=b.lt;have U:=b.km.lt;have S:=b.um.lt;have h:Bl w w:=Bl.refl w;refine Ck func81 24<|Hn 2 (#[.iface 160 (γ (brc vs (σ a n c))),ι (l:Int),β cb]) 131 ?_;intro w1 A q m;have P:w.heap.size<=A:=by have:=h.size;have:=q.hg;omega
 refine Hl 7 m 0 85 (.iface 160 (γ (brc vs (σ a n c))))<|Hn 4 (brc (λ_=>ν) (ε)) 160 ?_;intro W o d z;replace f:=f.go q.below;refine Hy 0 (og f81 1 7) o (brc vs (σ a n c)) (λ_=>AM 160 _ _ _ _ _ 160 rfl (by kernel_rfl) (by kernel_rfl) z (by kernel_rfl) (by kernel_rfl) (CV f)) ?_;intro N D;clear z;replace d:=d.put D;have O:A<o:=by have:=m.lt;have:=d.hg;omega
 replace h:=h.go q.below;have C:w.heap.size<=o:=by have:=h.size;have:=d.hg;omega
 replace h:=h.go d.below;replace f:=f.go d.below;replace v:=v.go q.below;replace v:=v.go d.below;replace b:=b.go q.below;replace b:=b.go d.below;replace m:=m.go d.below;have p:Rw o N (brc vs (σ a n c)) 160:=d.row;refine Ha 16 (og f81 4 1) o (16) (ε) (λ_=>ol_setC 32 _ _ o _ _ 160 _ p rfl (by kernel_rfl) (by kernel_rfl) (by show 16<17;omega) rfl rfl (by kernel_rfl)) ?_;intro I j;have y:=Nt.rows p (Fy f) j.touch;replace b:=b.keep y (j.touch.block _ b.lt (by omega)) (j.touch.block _ b.km.lt (by omega)) (b.um.keep (j.touch.block _ b.um.lt (by omega)));replace p:=p.set (cells':=(brc vs (ε))) j (by kernel_rfl);refine Hx 5 (og f81 5 1) (γ (brc vs (ε))) (λ_=>BW 160 _ _ _ _ _ _ rfl (by kernel_rfl) p υ160 rfl (by kernel_rfl)) ?_;replace m:=m.past j.touch (by omega);refine Hl 1 m 1 3 (ι (l:Int)) ?_;replace f:=f.nt y;refine Hc 0 (R:=RNm I g gK gU t0 kn (nrmU kn k [] l us) (nrmP kn k [] l)) (by exact(normal_any b f (Sk.nil _ _) (by omega) M L)) ?_;intro H Q J;obtain⟨F,r,G⟩:=J;have E:∃u s,H=θ #[u,β s]:=by
  cases B:nrmP kn k [] l with
  |none=>rw[B]at r;exact⟨_,_,r⟩
  |some t=>rw[B]at r;obtain⟨u,K,_⟩:=r;exact⟨_,_,K⟩
 obtain⟨u,s,rfl⟩:=E;refine Hp 1 (β s)<|Hp 1 (β s)<|Hr 3 (θ #[u,β s]) ?_;replace h:=h.tou j.touch C;exact⟨_,rfl,F,r,(TU.of h).trans G⟩
theorem Rq{w:Γ}{v:Δ}{s:Sp}{g gK gU:Nat}{t0:Pt}{kn:Kn}{us:List τ}(f:PAt w g gK gU t0 kn us)(h:ThA w s.t v)(q:Wg s.t s.l):Calls prog 81 #[π g,γ #[v,ι ((s.l:Nat):Int),β s.c]] w λe w'=>∃v',e=ω v'/\RNm w g gK gU t0 kn (woU kn s us) (woP kn s) v' w':=by
 obtain⟨t,l,cb⟩:=s;unfold woP woU;cases t with
 |no=>obtain rfl:v=ν:=h;exact Xb4 f
 |st d=>obtain⟨rfl,hd,_⟩:=h;exact Xb5 f hd
 |leaf p x=>obtain⟨a,n,c,b,m,d,rfl,j,o,r,i⟩:=h;exact Z1 f j o r i
 |ext p t=>obtain⟨a,n,c,u,rfl,j,i,z⟩:=h;exact XaT f j i z
 |br k x=>obtain⟨vs,a,n,c,rfl,y,o,i⟩:=h;exact Xb6 f y o i q.1 q.2
end
end Pa
end Go.Proofs.YtkdlocloepbmcaaGreat
