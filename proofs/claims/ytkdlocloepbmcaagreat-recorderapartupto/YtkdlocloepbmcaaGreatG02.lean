/- Slices of bytes joined. -/
import Derived.Test.YtkdlocloepbmcaaGreatG01
set_option linter.unusedVariables false
set_option linter.unusedSimpArgs false
set_option maxRecDepth 100000
set_option maxHeartbeats 4000000
open Go.Proofs.Tryz Go.RowKit
namespace Go.Proofs.YtkdlocloepbmcaaGreat
section
variable {K : Nat → Prop} {w w' : World} {a : Option Addr} {n c B g : Nat}
theorem RM{w w':Γ}{v u r:Δ}{b a:TypeId}{ρ:Φ}{o:Oper}(f:∀ty,(Builtin.append_ #[b,a] ty #[v,u]).run prog w= .ok r w')(x y:Operand)(c:o.op= .call {callee:= .builtin .append,args:=#[x,y],argTypes:=#[b,a]})(e:ρ x=v)(d:ρ y=u):(execOp ρ o).run prog w= .ok (.value r) w':=by
 unfold execOp;simp only[c,resolve,invoke,builtin,AO,AV,A4,BT,Bd,BY,e,d,f]
theorem Ld(n:Nat):(Builtin.zeroCells #[η 0] n).size=n:=by simp[Builtin.zeroCells]
theorem Qr(w:Γ)(k:Nat)(d:0<k)(h:k<=1000000):∃cap a,(∀ty,(Builtin.append_ #[32,3] ty #[ε,ι (k:Int)]).run prog w= .ok (σ (some ⟨w.heap.size,0,none⟩) k cap) a)/\OwnB a w.heap.size (σ (some ⟨w.heap.size,0,none⟩) 0 cap) []/\Bl w a:=by
 obtain⟨i,e,f,g,b⟩:=info5;have c:=λty=>Lib.run_append_nil_zeros (P:=prog) w 32 3 ty 5 i (η 0) .i64 .i64 υ32 υ3 e f k d (by omega) (by omega) (by rw[b];omega);refine⟨_,_,c,⟨rfl, .inr ⟨w.heap.size,_,_,rfl,Ab _,Ak _ _,A8 _,grownCap_le_maxLen _ _ _ _ (by unfold maxLen;omega),?_,rfl⟩⟩,?_⟩
 ·rw[Array.size_append,show(η 0).cells=#[η 0]from rfl,Ld,Ld];have:=grownCap_ge w k 0 5;omega
 ·exact(Ac _ _).drew.alloc (Ab _) _
theorem Yj{w:Γ}{g n cap:Nat}{ρ:Φ}{o:Oper}(x y:Operand)(c:o.op= .slice 32 x none (some y) none)(b:ρ x=σ (ζ g 0) n cap)(a:ρ y=ι 0):
 (execOp ρ o).run prog w= .ok (.value (σ (ζ g 0) 0 cap)) w:=by
 unfold execOp;rw[c];simp[b,a,Instr.sliceAt,Bm υ32,Instr.slice,Instr.sliceBounds,Instr.sliceBound,asIntOf,BO,Result.andThen]
theorem Sk.old{bs:τ}(h:Sk K w a n c bs){x:Addr}(f:a=some x)(k:0<n):x.block<w.heap.size:=by
 rcases h.ag.i with⟨b,d⟩|⟨gb,off,b,d,j,g,i,e⟩
 ·omega
 ·rw[f]at b;cases b;have:=Al (e 0 (by omega));exact this
theorem Sk.under{bs:τ}(h:Sk K w a n c bs)(m:∀x,a=some x->0<n->x.block<B)(l:Below B w w'):Sk K w' a n c bs:=by
 refine⟨⟨?_,h.ag.nil,h.ag.l,h.ag.b⟩,h.k⟩;rcases h.ag.i with b|⟨gb,off,b,f,d,g,k,i⟩
 ·exact .inl b
 ·exact .inr ⟨gb,off,b,f,d,g,k,λj e=>(l.cell (p:=⟨gb,off+j,none⟩) (show gb<B from m ⟨gb,off,none⟩ b d)).trans (i j e)⟩
theorem Rw.under{cells:Ξ}{T:TypeId}(h:Rw g w cells T)(a:g<B)(b:Below B w w'):Rw g w' cells T:=(b.block g a).trans h
theorem Vl(k:Nat)(e:k<=1000000):
 κ 166 #[ε,ι (k:Int)] w λu w'=>OwnB w' w.heap.size u []/\Bl w w':=by
 have f:=Bl.refl w;refine Ck func166 27<|Hf 9 ((k:Int)<(0:Int))<|Hw 14 (ι (IntKind.i64.wrap ((k:Int)-0))) (ι (k:Int)) (Ao (Value.int .i64) (by rw[Cy (by omega) (by omega)];omega))<|Hp 6 (β (decide ((k:Int)>(0:Int)))) ?_;cases g:(decide ((k:Int)>(0:Int)))with
 |true=>
  obtain⟨a,h,d,b,c⟩:=Qr w k (by simp only[Co]at*;omega) e;refine Hx 9 (og f166 5 5) (σ (some ⟨w.heap.size,0,none⟩) k a) (λ_=>RM d _ _ rfl (by kernel_rfl) (by kernel_rfl))<|Hx 2 (og f166 5 8) (σ (some ⟨w.heap.size,0,none⟩) 0 a) (λ_=>Yj (n:=k) _ _ rfl (by kernel_rfl) (by kernel_rfl)) ?_;exact Hr 10 (σ (some ⟨w.heap.size,0,none⟩) 0 a) ⟨_,rfl,b,c⟩
 |false=>
  exact Hr 12 (ε) ⟨_,rfl,⟨rfl, .inl ⟨rfl,rfl⟩⟩,f⟩
theorem Gy{K':Θ}{a':Ω}{n' c':Nat}{p q:τ}(f:Sk K w a n c p)(e:Sk K' w a' n' c' q)(d:Rw g w #[σ a n c,σ a' n' c'] 32)(z:n<=100000)(S:n'<=100000):
 κ 149 #[σ (ζ g 0) 2 2] w λu w'=>∃I J c2,u=σ I J c2/\Sk (λb=>w.heap.size<=b) w' I J c2 (p++q)/\Bl w w':=by
 have G:∀x,a=some x->0<n->x.block<w.heap.size:=λx l z=>f.old l z;have C:∀x,a'=some x->0<n'->x.block<w.heap.size:=λx l z=>e.old l z;have D:g<w.heap.size:=lt_of_get d;have h:=Bl.refl w;have Y:=f.len;have Z:=e.len;refine Ck func149 36<|Ho (X:=Nat×Nat) 19 (λx=>[(11,ι ((x.1:Nat):Int)),(3,ι ((x.2:Nat):Int)),(9,σ (ζ g 0) 2 2),(10,ι 2),(0,σ (ζ g 0) 2 2),(2,ε)]) (λx v=>(Sk K v a n c p/\Sk K' v a' n' c' q/\Rw g v #[σ a n c,σ a' n' c'] 32/\Bl w v)/\(x=(0,0)∨x=(1,n)∨x=(2,n+n'))) (λx=>2-x.1) (0,0) ⟨⟨f,e,d,h⟩, .inl rfl⟩ ?_;clear f e d h;rintro x v⟨⟨f,e,d,h⟩,l⟩ U F;rcases l with rfl|rfl|rfl
 ·skip
  refine Hl 14 d 0 32 (σ a n c)<|Hw 8 (ι (IntKind.i64.wrap ((0:Int)+(n:Int)))) (ι (n:Int)) (Ao (Value.int .i64) (by rw[Cy (by omega) (by omega)];omega))<|Hf 6 ((n:Int)<(0:Int)) ?_;exact F 10 (1,n) ⟨⟨f,e,d,h⟩, .inr (.inl rfl)⟩ (by show 2-1<2-0;omega) (λ_=>by kernel_rfl)
 ·skip
  refine Hl 14 d 1 32 (σ a' n' c')<|Hw 8 (ι (IntKind.i64.wrap ((n:Int)+(n':Int)))) (ι ((n+n':Nat):Int)) (Ao (Value.int .i64) (by rw[Cy (by omega) (by omega)];omega))<|Hf 6 (((n+n':Nat):Int)<(0:Int)) ?_;exact F 10 (2,n+n') ⟨⟨f,e,d,h⟩, .inr (.inr rfl)⟩ (by show 2-2<2-1;omega) (λ_=>by kernel_rfl)
 ·skip
  have M:=h;refine Hc 15 (R:=λu w'=>OwnB w' v.heap.size u []/\Bl v w') (Vl (n+n') (by omega)) ?_;rintro O W⟨k,r⟩;replace h:=h.go r;have Q:=h.size;have m:=r.size;replace f:=f.go r;replace e:=e.go r;replace d:=d.go r;refine Ho (X:=Nat×Δ) 12 (λx=>[(27,ι ((x.1:Nat):Int)),(6,x.2),(25,σ (ζ g 0) 2 2),(26,ι 2)]) (λx v'=>(Sk K v' a n c p/\Sk K' v' a' n' c' q/\Rw g v' #[σ a n c,σ a' n' c'] 32/\Bl w v')/\v.heap.size<=v'.heap.size/\((x.1=0/\OwnB v' v.heap.size x.2 [])∨(x.1=1/\OwnB v' v.heap.size x.2 p)∨(x.1=2/\OwnB v' v.heap.size x.2 (p++q)))) (λx=>2-x.1) (0,O) ⟨⟨f,e,d,h⟩,m, .inl ⟨rfl,k⟩⟩ ?_;have E:=M.size;clear f e d h k m;rintro⟨j,vP⟩ v'⟨⟨f,e,d,h⟩,m,l⟩ V H;rcases l with⟨A,k⟩|⟨A,k⟩|⟨A,k⟩<;>simp only at A k<;>subst A
  ·skip
   refine Hl 14 d 0 32 (σ a n c) ?_;obtain⟨s,t,B,y,o⟩:=Gx k f.ag (by simp;omega) m;rw[AH]at y;refine Hx 6 (og f149 13 2) s (λ_=>I7 B _ _ rfl (by kernel_rfl) (by kernel_rfl)) ?_;have i:Below w.heap.size v' t:=o.mono E;replace h:Bl w t:=Cr h i;replace f:=f.under G i;replace e:=e.under C i;replace d:=d.under D i;exact H 8 (1,s) ⟨⟨f,e,d,h⟩,by have:=o.size;omega, .inr (.inl ⟨rfl,y⟩)⟩ (by show 2-1<2-0;omega) (λ_=>by kernel_rfl)
  ·skip
   refine Hl 14 d 1 32 (σ a' n' c') ?_;obtain⟨s,t,B,y,o⟩:=Gx k e.ag (by omega) m;refine Hx 6 (og f149 13 2) s (λ_=>I7 B _ _ rfl (by kernel_rfl) (by kernel_rfl)) ?_;have i:Below w.heap.size v' t:=o.mono E;replace h:Bl w t:=Cr h i;replace f:=f.under G i;replace e:=e.under C i;replace d:=d.under D i;exact H 8 (2,s) ⟨⟨f,e,d,h⟩,by have:=o.size;omega, .inr (.inr ⟨rfl,y⟩)⟩ (by show 2-2<2-1;omega) (λ_=>by kernel_rfl)
  ·skip
   obtain⟨P,N,rfl,L⟩:=k.sk (K:=λb=>w.heap.size<=b) (K8 f.ag.b e.ag.b) (λb T=>by omega);exact Hr 19 (σ P (p++q).length N) ⟨_,rfl,_,_,_,rfl,L,h⟩
end
namespace Ni
theorem common_any(C D:Ω)(a c1 c c2:Nat)(p q:τ)(w:Γ)(s:Ag w C a c1 p)(o:Ag w D c c2 q)(Z:a<=140737488355328)(aa:c<=140737488355328):
 Calls prog 112 #[σ C a c1,σ D c c2] w λe w'=>e=ω (ι (com p q:Nat))/\Λ w w':=by
 have n:=Aa s.l;have m:=Aa o.l;have H:=Aa (λh=>ag_head s h);have J:=Aa (λh=>ag_head o h);clear s o;obtain⟨L,g⟩:∃r,com p q=r:=⟨_,rfl⟩;rw[g];have G:=Aa g;clear g;go_enter func112,ntmps112;go_wp2_with fail
 go_loopw [5] (λi v=>∃j:Nat,j<=a/\j<=c/\i=ι j/\p.take j=q.take j/\Λ w v) (λi _=>a-(intOf i).toNat)
 case atStart=>exact⟨0,by omega,by omega,rfl,rfl,Ac _ _⟩
 case round=>
  obtain⟨j,Y,ab,rfl,z,B⟩:=hrel;have A:=Aa z;have d:=Aa B;clear z B;have HD:Hid ((j=p.length∨j=q.length∨p.getD j 0≠q.getD j 0)->L=j):=Aa (λh=>G.out.symm.trans (La p q j (by have:=n.out;omega) (by have:=m.out;omega) A.out h));by_cases t:j<a
  case neg=>
   have I:¬(j:Int)<a:=(by omega);have e:=HD.out (.inl (by have:=n.out;omega));subst e;go_wp2_with fail
   go_region
   all_goals
    go_wp2_with fail;go_ret;exact⟨rfl,d.out.drew⟩
  have U:(j:Int)<a:=by omega
  by_cases u:j<c
  case neg=>
   have I:¬(j:Int)<c:=(by omega);have e:=HD.out (.inr (.inl (by have:=m.out;omega)));subst e;go_wp2_with fail
   go_region
   all_goals
    go_wp2_with fail;go_ret;exact⟨rfl,d.out.drew⟩
  have W:(j:Int)<c:=by omega
  obtain⟨R,Q,rfl,V,F,l⟩:=H.out (by omega);obtain⟨N,P,rfl,X,E,k⟩:=J.out (by omega);unfold maxLen at F E;have T:=(d.out.cell (p:=⟨R,Q+j,none⟩) (Al (l j t))).trans (l j t);have S:=(d.out.cell (p:=⟨N,P+j,none⟩) (Al (k j u))).trans (k j u);have K:=Aa (take_snoc (b:=p) (i:=j) (by have:=n.out;omega));have M:=Aa (take_snoc (b:=q) (i:=j) (by have:=m.out;omega));generalize p.getD j 0=x at*;generalize q.getD j 0=y at*;clear l k;by_cases f:x=y
  ·subst f;have O:(x==x)=true:=(by simp);go_wp2_with fail
   go_region
   all_goals
    go_wp2_with fail;exact⟨⟨j+1,by omega,by omega,by simp,by rw[K.out,M.out,A.out],d.out.drew⟩,by simp[intOf];omega⟩
  ·have e:=HD.out (.inr (.inr f));subst e;have O:(x==y)=false:=(by simpa using f);clear f;go_wp2_with fail
   go_region
   all_goals
    go_wp2_with fail;go_ret;exact⟨rfl,d.out.drew⟩
end Ni
section
open Tr
variable {K : Nat → Prop} {w w' : World} {a aq : Option Addr} {n c g nq cq : Nat} {r x q : List Int} {k : Nat → Tr} {vs : Nat → Value} {p : Addr}
theorem ol_indexK{P:Program}{ρ:Φ}{w:Γ}{o:Oper}{kd:IntKind}(T:TypeId)(x y:Operand)(g off j len sz:Nat)(E:TypeId)(c:o.op= .indexAddr T x y)(k:ρ x=ψ g off)(e:ρ y= .int kd j)(d:j<len)(l:1<len)(h:P.underlying T=some (.array len E))(b:(P.info? E).map (·.size)=some sz):
 (execOp ρ o).run P w= .ok (.value (ψ g (off+j*sz))) w:=by
 have i:(sizeOf E).run P w= .ok sz w:=by
  cases a:P.info? E with
  |none=>simp[a]at b
  |some z=>simp[a]at b;simp[sizeOf,typeInfo,a,b]
 unfold execOp;rw[c];simp only[k,e];have f:(if j*sz=0 then(⟨g,off,none⟩:Addr)else⟨g,off+j*sz,none⟩)=⟨g,off+j*sz,none⟩:=by split<;>simp_all
 simp[Instr.indexAt,Instr.sureAddr,asIntOf,Bm h,i,d,Result.andThen,Addr.add,f]
theorem Sk.head{i:Int}(h:Sk K w a n c (i::r)):∃g o,a=some ⟨g,o,none⟩/\w.cell? ⟨g,o+0*1,none⟩=some (η i)/\0<n:=by
 have d:=h.len;rw[AE]at d;rcases h.ag.i with⟨b,e⟩|⟨gb,off,b,e,j,k,l,f⟩
 ·omega
 ·exact⟨gb,off,b,by rw[show off+0*1=off+0 from by omega,f 0 (by simp)];rfl,j⟩
def TK(K:Θ)(w:Γ)(k:Nat->Tr)(vs:Nat->Δ):Prop:=∀i,i<16->TA K w (k i) (vs i)
theorem TK.go(h:TK K w k vs)(b:Λ w w'):TK K w' k vs:=λi a=>(h i a).go b
theorem TK.drew(h:TK K w k vs):TK K w.drew k vs:=λi a=>(h i a).drew
structure Sx(g:Nat)(cells:Ξ)(T:TypeId)(p:Addr)(x:Δ)(w:Γ):Prop where
 r:Rw g w cells T
 c:w.cell? p=some x
theorem Sx.go{cells:Ξ}{T:TypeId}{x:Δ}(h:Sx g cells T p x w)(a:Λ w w'):Sx g cells T p x w':=⟨h.r.go a,(a.cell (p:=p) (Al h.c)).trans h.c⟩
theorem Sx.drew{cells:Ξ}{T:TypeId}{x:Δ}(h:Sx g cells T p x w):Sx g cells T p x w.drew:=h.go (Ac _ _).drew
def RS(K:Θ)(w:Γ)(x:τ):Δ->Γ->Prop:=λu w'=>(∃a n c,u=σ a n c/\Sk K w' a n c x)/\Bl w w'
def TRs(K:Θ)(w:Γ)(t:Tr):Δ->Γ->Prop:=λu w'=>TA K w' t u/\Bl w w'
def FS(t:Tr):Prop:=∀{K:Θ}{w:Γ}{v:Δ}{a:Ω}{n c:Nat}{q:τ}{B:Nat},Ok B t->TA K w t v->Sk K w a n c q->Nb q->MC "pergola/trie.find" v #[σ a n c] w (RS K w (Tr.get t q))
theorem Th{a':Ω}{n' c':Nat}{p:τ}(h:Sk K w a n c p)(j:Sk K w a' n' c' x)(i:Sk K w aq nq cq q):
 κ 194 #[γ #[σ a n c,σ a' n' c'],σ aq nq cq] w λu w'=>RS K w (Tr.get (leaf p x) q) u w':=by
 have b:=Bl.refl w;refine Ck func194 12<|Hn 2 (#[σ a n c,σ a' n' c']) 102 ?_;intro w1 k d e;refine Hl 8 e 0 32 (σ a n c) ?_;replace h:=h.go d.below;replace i:=i.go d.below;refine Hc 0 (R:=λu w'=>u=β (decide (q=p))/\Bl (w1) w') ((EX i h)) ?_;rintro _ l⟨rfl,f⟩;refine Hp 0 (β (!(decide (q=p)))) ?_;by_cases g:q=p
 ·skip
  rw[show decide (q=p)=true from AF g];replace e:=e.go f;refine Hl 8 e 1 32 (σ a' n' c') ?_;replace b:=(b.go d.below).go f;replace j:=(j.go d.below).go f;exact Hr 4 (σ a' n' c') ⟨_,rfl,⟨_,_,_,rfl,by simp only[Tr.get];rw[Ai g];exact j⟩,b⟩
 ·skip
  rw[show decide (q=p)=false from Bi g];replace b:=(b.go d.below).go f;exact Hr 10 (ε) ⟨_,rfl,⟨_,_,_,rfl,by simp only[Tr.get];rw[Ae g];exact Sk.nil _ _⟩,b⟩
theorem Ti{B:Nat}{p:τ}{t:Tr}{k:Δ}(m:Sk K w a n c p)(o:TA K w t k)(G:Ok B t)(I:FS t)(r:Sk K w aq nq cq q)(A:Nb q):
 κ 210 #[γ #[σ a n c,k],σ aq nq cq] w λu w'=>RS K w (Tr.get (ext p t) q) u w':=by
 have d:=Bl.refl w;refine Ck func210 20<|Hn 2 (#[σ a n c,k]) 255 ?_;intro w1 N f i;refine Hl 7 i 0 32 (σ a n c) ?_;replace m:=m.go f.below;replace r:=r.go f.below;refine Hc 0 (R:=λu w'=>∃g h c2 b,u=θ #[σ g h c2,β b]/\b=decide (q.take p.length=p)/\(q.take p.length=p->Sk K w' g h c2 (q.drop p.length))/\Bl (w1) w') ((Mn r m)) ?_;rintro _ H⟨g,h,c2,b,rfl,s,l,j⟩;refine Hp 0 (θ #[σ g h c2,β b])<|Hp 1 (β b)<|Hp 1 (β b) ?_;by_cases e:q.take p.length=p
 ·skip
  obtain rfl:b=true:=by rw[s];exact AF e
  replace l:=l e;replace i:=i.go j;refine Hl 15 i 1 69 (k) ?_;replace o:=(o.go f.below).go j;obtain⟨L,x,D,J,C,v⟩:=I G o l (A.drop _);refine Hm 1 (og f210 4 3) D (#[x]++#[σ g h c2]) (λ_=>C _ _ _ _ _ _ _ rfl (by kernel_rfl) (by kernel_rfl)) (R:=RS K (H) (Tr.get t (q.drop p.length))) ?_ ?_
  ·exact v
  rintro _ M⟨⟨F,E,c3,rfl,y⟩,z⟩;replace d:=((d.go f.below).go j).go z;exact Hr 4 (σ F E c3) ⟨_,rfl,⟨_,_,_,rfl,by simp only[Tr.get];rw[Ai e];exact y⟩,d⟩
 ·skip
  obtain rfl:b=false:=by rw[s];exact Bi e
  replace d:=(d.go f.below).go j;exact Hr 17 (ε) ⟨_,rfl,⟨_,_,_,rfl,by simp only[Tr.get];rw[Ae e];exact Sk.nil _ _⟩,d⟩
theorem Yk(b:Sk K w aq nq cq q):
 κ 30 #[ν,σ aq nq cq] w λu w'=>RS K w (Tr.get no q) u w':=by
 have a:=Bl.refl w;refine Ck func30 10 ?_;exact Hr 20 (ε) ⟨_,rfl,⟨_,_,_,rfl,by simp only[Tr.get];exact Sk.nil _ _⟩,a⟩
theorem Vm{T0:TypeId}{v0:Δ}(e:MC "pergola/trie.find" (.iface T0 v0) #[σ aq nq cq] w (RS K w x)):
 κ 30 #[.iface T0 v0,σ aq nq cq] w λu w'=>RS K w x u w':=by
 have a:=Bl.refl w;refine Ck func30 10 ?_;obtain⟨l,f,g,k,b,d⟩:=e;refine Hm 19 (og f30 3 2) g (#[f]++#[σ aq nq cq]) (λ_=>b _ _ _ _ _ _ _ rfl (by kernel_rfl) (by kernel_rfl)) (R:=RS K w x) ?_ ?_
 ·exact d
 rintro _ m⟨⟨j,i,c3,rfl,c⟩,h⟩;replace a:=a.go h;exact Hr 4 (σ j i c3) ⟨_,rfl,⟨_,_,_,rfl,c⟩,a⟩
theorem IV{t:Tr}{v:Δ}(a:t=no∨∃B,Ok B t/\FS t)(c:TA K w t v)(d:Sk K w aq nq cq q)(e:Nb q):
 κ 30 #[v,σ aq nq cq] w λu w'=>RS K w (Tr.get t q) u w':=by
 rcases a with rfl|⟨B,g,a⟩
 ·rw[show v=ν from c];exact Yk d
 ·have b:=a g c d e;obtain⟨T,x,f,rfl,_⟩:=id b;exact Vm b
theorem Tj(g:TK K w k vs)(d:Sk K w a n c x):
 κ 203 #[γ (brc vs (σ a n c)),σ aq 0 cq] w λu w'=>RS K w (Tr.get (br k x) []) u w':=by
 have b:=Bl.refl w;refine Ck func203 19<|Hn 2 (brc vs (σ a n c)) 250 ?_;intro w1 h e f;refine Hl 15 f 16 32 (σ a n c) ?_;replace b:=b.go e.below;replace d:=d.go e.below;exact Hr 5 (σ a n c) ⟨_,rfl,⟨_,_,_,rfl,by simp only[Tr.get];exact d⟩,b⟩
theorem Qt(q:TK K w k vs)(N:Sk K w a n c x){d e i:Nat}(o:i<16)(l:Sk K w (ζ d e) nq cq ((i:Int)::r))(M:0<nq)(t:w.cell? ⟨d,e+0*1,none⟩=some (η (i:Int)))(J:k i=no∨∃B,Ok B (k i)/\FS (k i))(C:Nb r):
 κ 203 #[γ (brc vs (σ a n c)),σ (ζ d e) nq cq] w λu w'=>RS K w (Tr.get (k i) r) u w':=by
 have g:=Bl.refl w;refine Ck func203 19<|Hn 2 (brc vs (σ a n c)) 250 ?_;intro w1 j m y;refine Hz 8 (nq:Int) (0:Int) ?_;replace g:=g.go m.below;have b:Sx j (brc vs (σ a n c)) 250 ⟨d,e+0*1,none⟩ (η (i:Int)) w1:=⟨y,(g.cell (p:=⟨d,e+0*1,none⟩) (Al t)).trans t⟩;refine Fq 6 (λv=>Sx j (brc vs (σ a n c)) 250 ⟨d,e+0*1,none⟩ (η (i:Int)) v) (b.drew) ?_;replace b:=b.drew;refine Dx [0] 1 (og f203 3 1) (ψ d (e+0*1)) (λv f _=>AW 32 _ _ d e 0 nq cq 1 5 rfl (by kernel_rfl) (by kernel_rfl) (by omega) υ32 (by kernel_rfl)) b<|Dx [] 2 (og f203 3 2) (η (i:Int)) (λv f _=>AY 5 _ _ _ _ rfl (by kernel_rfl) f.c υ5 rfl) b<|Dx [3] 4 (og f203 3 4) (ψ j (0+i*1)) (λv f _=>ol_indexK (kd:= .u8) 248 _ _ j 0 i 16 1 69 rfl (by kernel_rfl) (by kernel_rfl) o (by omega) υ248 (by kernel_rfl)) b<|Dx [] 5 (og f203 3 5) (vs i) (λv f _=>AY 69 _ ⟨j,0+i*1,none⟩ _ _ rfl (by kernel_rfl) (by rw[A6,BE,Aj _ _ _ _ _ _ f.r,EQ _ _ _ o]) υ69 rfl) b ?_;replace l:=(l.go m.below).drew;obtain⟨I,E,G,D,A⟩:=l.cutFrom 1 (by have:=l.len;omega);refine Dx [6] 7 (og f203 3 7) (σ I E G) (λv f=>(λ_=>D _ _ _ _ _ _ rfl (by kernel_rfl) (by kernel_rfl) rfl)) b<|Dz [8] ?_;replace q:=(q.go m.below).drew;refine Yc 8 (R:=RS K (w1.drew) (Tr.get (k i) r)) ((IV J (q i o) A C)) (λu w' h=>b.go h.2) ?_ yn;rintro _ L⟨⟨H,F,c3,rfl,z⟩,s⟩;replace b:=b.go s;refine Dq [9] b ?_;replace g:=g.drew.go s;exact Hr 2 (σ H F c3) ⟨_,rfl,⟨_,_,_,rfl,z⟩,g⟩
theorem Qu(t:Tr):FS t:=by
 induction t with
 |no=>intro K w v a n c q B f;exact f.elim
 |leaf p x=>
  intro K w v a n c q B f m b l;obtain⟨y,z,c1,G,H,c2,rfl,e,d,A⟩:=m;exact⟨_,_,_,rfl,Ta _,Th e d b⟩
 |ext p t s=>
  intro K w v a n c q B f m b l;obtain⟨y,z,c1,u,rfl,e,d⟩:=m;exact⟨_,_,_,rfl,Tb _,Ti e d f.2.2.2.2 s b l⟩
 |br k x s=>
  intro K w v a n c q B f m b l;obtain⟨vs,y,z,c1,rfl,e,d,A⟩:=m;refine⟨_,_,_,rfl,Tc _,?_⟩;cases q with
  |nil=>
   obtain rfl:n=0:=b.len.symm;exact Tj e d
  |cons i r=>
   obtain⟨g,o,rfl,C,E⟩:=b.head;have D:=l.head;obtain⟨j,rfl⟩:=Df D.1;have F:k j=no∨∃B,Ok B (k j)/\FS (k j):=by
    rcases f.1 j with h|⟨_,_,h⟩
    ·exact .inl h
    ·exact .inr ⟨_,h,s j⟩
   exact Qt e d (by omega) b E C F l.tail
end
section
open Tr
variable {K : Nat → Prop} {w w' : World} {a a' aq ax : Option Addr} {n c n' c' nq cq g o g' i cx m B : Nat} {p x q y : List Int} {Tu : TypeId} {xu : Value} {k : Nat → Tr} {vs : Nat → Value}
theorem Sk.mono{K':Θ}{bs:τ}(h:Sk K w a n c bs)(d:∀b,K b->K' b):Sk K' w a n c bs:=⟨h.ag,λx e f=>d _ (h.k x e f)⟩
theorem TA.iface{t:Tr}{v:Δ}(h:TA K w t v)(a:t≠no):∃T x,v= .iface T x:=by
 cases t with
 |no=>exact absurd rfl a
 |leaf p x=>obtain⟨_,_,_,_,_,_,rfl,_⟩:=h;exact⟨_,_,rfl⟩
 |ext p t=>obtain⟨_,_,_,_,rfl,_⟩:=h;exact⟨_,_,rfl⟩
 |br k x=>obtain⟨_,_,_,_,rfl,_⟩:=h;exact⟨_,_,rfl⟩
def US(t:Tr):Prop:=∀{K:Θ}{w:Γ}{v:Δ}{a:Ω}{n c:Nat}{q:τ}{B:Nat},Ok B t->TA K w t v->Sk K w a n c q->q.length<=64->B<=64->(∀b,w.heap.size<=b->K b)->MC "pergola/trie.under" v #[σ a n c] w (TRs K w (und q t))
theorem Qv(e:Sk K w a n c p)(s:Sk K w a' n' c' x)(C:n'<=256)(f:Sk K w aq nq cq q)(F:∀b,w.heap.size<=b->K b)(I:p.length<=64)(H:q.length<=64):
 κ 196 #[γ #[σ a n c,σ a' n' c'],σ aq nq cq] w λu w'=>TRs K w (und q (leaf p x)) u w':=by
 have i:=Bl.refl w;refine Ck func196 14<|Hn 2 (#[σ a n c,σ a' n' c']) 102 ?_;intro w1 E k d;replace e:=e.go k.below;have M:=e.len;replace f:=f.go k.below;have L:=f.len;refine Fq 4 (λv=>Rw E v (#[σ a n c,σ a' n' c']) 102) (d.drew) ?_;replace d:=d.drew;refine Dl [0,1] 2 (λv l=>l) 0 32 (σ a n c) d<|Dl [5] 6 (λv l=>l) 1 32 (σ a' n' c') d<|Dz [3] ?_;refine ZQ 3 #[σ aq nq cq,σ a n c] 32 2 (λw' g h=>d.go h.below) ?_ yn;intro z J j G;refine Dz [4] ?_;replace e:=e.drew.go j.below;replace f:=f.drew.go j.below;replace d:=d.go j.below;refine Yc 4 (R:=λu w'=>∃y A c2,u=σ y A c2/\Sk (λb=>(z).heap.size<=b) w' y A c2 (q++p)/\Bl (z) w') ((Gy f e G (by omega) (by omega))) (λu w' h=>d.go (by obtain⟨_,_,_,_,_,h⟩:=h;exact h)) ?_ yn;rintro _ u8⟨t,r,c3,rfl,m,o⟩;replace i:=((i.go k.below).drew).go j.below;have B:=i.size;replace m:Sk K u8 t r c3 (q++p):=m.mono (λb D=>F b (Au B D));replace d:=d.go o;refine Dx [] 7 (og f196 1 7) (γ #[σ t r c3,σ a' n' c']) (λv l=>(λ_=>by kernel_rfl)) d<|Dq [8,9] d ?_;replace s:=(((s.go k.below).drew).go j.below).go o;replace i:=i.go o;exact Hr 2 (.iface 102 (γ #[σ t r c3,σ a' n' c'])) ⟨_,rfl,⟨_,_,_,_,_,_,rfl,m,s,C⟩,i⟩
theorem Qw{t:Tr}(e:Sk K w a n c p)(r:TA K w t (.iface Tu xu))(f:Sk K w aq nq cq q)(E:∀b,w.heap.size<=b->K b)(H:p.length<=64)(G:q.length<=64):
 κ 212 #[γ #[σ a n c, .iface Tu xu],σ aq nq cq] w λu w'=>TRs K w (und q (ext p t)) u w':=by
 have i:=Bl.refl w;refine Ck func212 14<|Hn 2 (#[σ a n c, .iface Tu xu]) 255 ?_;intro w1 D k d;replace e:=e.go k.below;have L:=e.len;replace f:=f.go k.below;have J:=f.len;refine Fq 4 (λv=>Rw D v (#[σ a n c, .iface Tu xu]) 255) (d.drew) ?_;replace d:=d.drew;refine Dl [0,1] 2 (λv l=>l) 0 32 (σ a n c) d<|Dl [5] 6 (λv l=>l) 1 69 (.iface Tu xu) d<|Dz [3] ?_;refine ZQ 3 #[σ aq nq cq,σ a n c] 32 2 (λw' g h=>d.go h.below) ?_ yn;intro z I j F;refine Dz [4] ?_;replace e:=e.drew.go j.below;replace f:=f.drew.go j.below;replace d:=d.go j.below;refine Yc 4 (R:=λu w'=>∃y A c2,u=σ y A c2/\Sk (λb=>(z).heap.size<=b) w' y A c2 (q++p)/\Bl (z) w') ((Gy f e F (by omega) (by omega))) (λu w' h=>d.go (by obtain⟨_,_,_,_,_,h⟩:=h;exact h)) ?_ yn;rintro _ u8⟨x,s,c3,rfl,m,o⟩;replace i:=((i.go k.below).drew).go j.below;have B:=i.size;replace m:Sk K u8 x s c3 (q++p):=m.mono (λb C=>E b (Au B C));replace d:=d.go o;refine Dx [] 7 (og f212 1 7) (γ #[σ x s c3, .iface Tu xu]) (λv l=>(λ_=>by kernel_rfl)) d<|Dq [8,9] d ?_;replace r:=(((r.go k.below).drew).go j.below).go o;replace i:=i.go o;exact Hr 2 (.iface 255 (γ #[σ x s c3, .iface Tu xu])) ⟨_,rfl,⟨_,_,_,_,rfl,m,r⟩,i⟩
theorem Vn(d:TK K w k vs)(h:Sk K w a n c x)(j:n<=256)(f:Sk K w aq nq cq q)(l:nq=0):
 κ 206 #[γ (brc vs (σ a n c)),σ aq nq cq] w λu w'=>TRs K w (und q (br k x)) u w':=by
 have g:=Bl.refl w;refine Ck func206 15<|Hn 2 (brc vs (σ a n c)) 250 ?_;intro w1 m b i;refine Hq 8 (nq:Int) (0:Int)<|Hx 5 (og f206 2 0) (γ (brc vs (σ a n c))) (λ_=>BW 250 _ _ _ _ _ _ rfl (by kernel_rfl) i υ250 rfl (by kernel_rfl)) ?_;replace g:=g.go b.below;replace h:=h.go b.below;replace f:=f.go b.below;replace d:=d.go b.below;exact Hr 6 (.iface 250 (γ (brc vs (σ a n c)))) ⟨_,rfl,(by have e:q=[]:=Aw (by have:=f.len;omega);subst e;exact⟨vs,_,_,_,rfl,d,h,j⟩),g⟩
theorem Vo(f:TK K w k vs)(h:Sk K w a n c x)(j:n<=256)(d:Sk K w aq nq cq q)(l:0<nq):
 κ 206 #[γ (brc vs (σ a n c)),σ aq nq cq] w λu w'=>TRs K w (und q (br k x)) u w':=by
 have g:=Bl.refl w;refine Ck func206 15<|Hn 2 (brc vs (σ a n c)) 250 ?_;intro w1 m b i;refine Hz 8 (nq:Int) (0:Int)<|Hx 8 (og f206 3 1) (γ (brc vs (σ a n c))) (λ_=>BW 250 _ _ _ _ _ _ rfl (by kernel_rfl) i υ250 rfl (by kernel_rfl)) ?_;replace d:=d.go b.below;have e:q≠[]:=by intro e;have:=d.len;rw[e,BV]at this;omega
 replace g:=g.go b.below;replace h:=h.go b.below;replace f:=f.go b.below;exact Hr 7 (.iface 255 (γ #[σ aq nq cq, .iface 250 (γ (brc vs (σ a n c)))])) ⟨_,rfl,(by simp only[und];rw[Ae e];exact⟨_,_,_,_,rfl,d,vs,_,_,_,rfl,f,h,j⟩),g⟩
theorem Vp{v:Δ}(g:TA K w (br k x) v)(b:Sk K w a n c q):MC "pergola/trie.under" v #[σ a n c] w (TRs K w (und q (br k x))):=by
 obtain⟨vs,i,j,c1,rfl,e,d,f⟩:=g;refine⟨_,_,_,rfl,Qo _,?_⟩;rcases Nat.eq_zero_or_pos n with h|h
 ·exact Vn e d f b h
 ·exact Vo e d f b h
theorem Qx(t:Tr):US t:=by
 cases t with
 |no=>intro K w v a n c q B b;exact b.elim
 |leaf p x=>
  intro K w v a n c q B b f d g j i;obtain⟨m,o,c1,s,y,c2,rfl,l,h,r⟩:=f;exact⟨_,_,_,rfl,Qm _,Qv l h r d i (Au b.2.1 j) g⟩
 |ext p t=>
  intro K w v a n c q B b f d g j i;obtain⟨m,o,c1,u,rfl,l,h⟩:=f;obtain⟨Tu,xu,rfl⟩:=h.iface (λe=>by rw[e]at b;exact absurd b.2.2.2.1 (by simp[isBr]));exact⟨_,_,_,rfl,Qn _,Qw l h d i (Au b.2.2.1 j) g⟩
 |br k x=>
  intro K w v a n c q B b f d g j i;exact Vp f d
def NoInt(cells:Ξ):Prop:=∀(j:Nat)(v:Δ),cells[j]?=some v->∀kd z,v≠ .int kd z
structure Bs(w w':Γ)(g:Nat):Prop where
 other:∀k,k≠g->w'.heap[k]?=w.heap[k]?
 no:∀o kd z,w.cell? ⟨g,o,none⟩≠some (.int kd z)
theorem Bs.of{cells:Ξ}{T:TypeId}{v:Δ}(h:Rw g w cells T)(c:NoInt cells)(a:Set1 w w' g o v):Bs w w' g:=
 ⟨λk b=>a.other b,λo kd z e=>by rw[Aj _ _ _ _ _ _ h]at e;exact c _ _ e kd z rfl⟩
theorem Sk.bs{bs:τ}(h:Sk K w a n c bs)(i:Bs w w' g):Sk K w' a n c bs:=by
 refine⟨⟨?_,h.ag.nil,h.ag.l,h.ag.b⟩,h.k⟩;rcases h.ag.i with b|⟨gb,off,b,l,p,m,o,f⟩
 ·exact .inl b
 ·refine .inr ⟨gb,off,b,l,p,m,o,λj d=>?_⟩;have k:gb≠g:=λe=>by
   subst e;exact i.no _ _ _ (f j d)
  rw[<-f j d];exact Av (i.other gb k)
theorem TA.bs(f:Bs w w' g):∀{t:Tr}{v:Δ},TA K w t v->TA K w' t v:=by
 intro t
 induction t with
 |no=>intro v h;exact h
 |leaf p x=>rintro v⟨a,n,c,a',n',c',d,b,e,l⟩;exact⟨a,n,c,a',n',c',d,b.bs f,e.bs f,l⟩
 |ext p t j=>rintro v⟨a,n,c,u,d,b,e⟩;exact⟨a,n,c,u,d,b.bs f,j e⟩
 |br k x j=>rintro v⟨vs,a,n,c,d,b,e,l⟩;exact⟨vs,a,n,c,d,λi m=>j i (b i m),e.bs f,l⟩
theorem TK.bs(h:TK K w k vs)(b:Bs w w' g):TK K w' k vs:=λi a=>(h i a).bs b
theorem Bl.set{w0:Γ}{v:Δ}(h:Bl w0 w)(a:Set1 w w' g o v)(b:w0.heap.size<=g):Bl w0 w':=a.touch.below h b h.size
theorem Rw.set{cells cells':Ξ}{T:TypeId}{v:Δ}(h:Rw g w cells T)(a:Set1 w w' g o v)(e:cells.setIfInBounds o v=cells'):Rw g w' cells' T:=by
 rw[<-e,Rw,a.hw];exact AU _ _ _ _ _ _ h
theorem Rw.apart{cells:Ξ}{T:TypeId}{v:Δ}(h:Rw g w cells T)(a:Set1 w w' g' o v)(e:g≠g'):Rw g w' cells T:=(a.other e).trans h
theorem TA.noint{t:Tr}{v:Δ}(h:TA K w t v)(kd:IntKind)(z:Int):v≠ .int kd z:=by
 cases t with
 |no=>rw[show v=ν from h];simp
 |leaf p x=>obtain⟨_,_,_,_,_,_,rfl,_⟩:=h;simp
 |ext p t=>obtain⟨_,_,_,_,rfl,_⟩:=h;simp
 |br k x=>obtain⟨_,_,_,_,rfl,_⟩:=h;simp
theorem TK.noint(h:TK K w k vs)(a:Ω)(n c:Nat):NoInt (brc vs (σ a n c)):=by
 intro j v b kd z;by_cases d:j<16
 ·rw[EQ _ _ _ d]at b;cases b;exact(h j d).noint kd z
 ·have e:j<(brc vs (σ a n c)).size:=(Cu.1 b).1;have e:j<17:=e;obtain rfl:j=16:=by omega
  rw[show(brc vs (σ a n c))[16]?=some (σ a n c)from rfl]at b;cases b;simp
theorem TK.put(h:TK K w k vs){t:Tr}{v:Δ}(a:TA K w t v):TK K w (upd k i t) (updv vs i v):=λj b=>by
 unfold Tr.upd updv;by_cases e:j=i
 ·rw[Ai e,Ai e];exact a
 ·rw[Ae e,Ae e];exact h j b
theorem TK.none(K:Θ)(w:Γ):TK K w nk (λ_=>ν):=λ_ _=>rfl
theorem ol_setC{ρ:Φ}{w:Γ}{o:Oper}(T:TypeId)(x y:Operand)(g j:Nat)(cells:Ξ)(E:TypeId)(v:Δ)(h:Rw g w cells E)(d:o.op= .store T x y)(n:ρ x=ψ g j)(f:ρ y=v)(i:j<cells.size)(k:v.cells=#[v])(e:v.oneCell'=true)(b:(prog.info? T).map (·.size)=some 1):
 (execOp ρ o).run prog w= .ok .skip (w.setCell ⟨g,j,none⟩ v):=by
 have m:w.cell? ⟨g,j,none⟩=some cells[j]:=by rw[Aj _ _ _ _ _ _ h];exact Bw i
 have c:w.frozen? ⟨g,j,none⟩=false:=AN _ _ _ _ _ h;have l:(sizeOf T).run prog w= .ok 1 w:=by
  cases a:prog.info? T with
  |none=>simp[a]at b
  |some z=>simp[a]at b;simp[sizeOf,typeInfo,a,b]
 unfold execOp;rw[d];simp only[n,f,Instr.storeAt,Instr.sureAddr,storeVar,k,AO,AV,A4,l];go_simp;rw[run_store _ _ _ _ _ e];simp[m,c]
theorem TA.cells{t:Tr}{v:Δ}(h:TA K w t v):v.cells=#[v]:=by
 cases t with
 |no=>rw[show v=ν from h];rfl
 |leaf p x=>obtain⟨_,_,_,_,_,_,rfl,_⟩:=h;rfl
 |ext p t=>obtain⟨_,_,_,_,rfl,_⟩:=h;rfl
 |br k x=>obtain⟨_,_,_,_,rfl,_⟩:=h;rfl
def WS(t:Tr):Prop:=∀{K:Θ}{w:Γ}{v:Δ}{a:Ω}{n c:Nat}{q:τ}{a':Ω}{n' c':Nat}{x:τ}{B:Nat},Ok B t->B<=64->q.length<=B->Nb q->TA K w t v->Sk K w a n c q->Sk K w a' n' c' x->n'<=256->(∀b,w.heap.size<=b->K b)->MC "pergola/trie.with" v #[σ a n c,σ a' n' c'] w (TRs K w (put t q x))
theorem Xal(d:Sk K w aq nq cq q){nx:Nat}(c:Sk K w ax nx cx x)(a:nx<=256):
 κ 32 #[ν,σ aq nq cq,σ ax nx cx] w λu w'=>TRs K w (put no q x) u w':=by
 have b:=Bl.refl w;refine Ck func32 17 ?_;exact Hr 24 (.iface 102 (γ #[σ aq nq cq,σ ax nx cx])) ⟨_,rfl,⟨_,_,_,_,_,_,rfl,d,c,a⟩,b⟩
theorem Yl{nx:Nat}{t:Tr}{T0:TypeId}{v0:Δ}(d:MC "pergola/trie.with" (.iface T0 v0) #[σ aq nq cq,σ ax nx cx] w (TRs K w t)):
 κ 32 #[.iface T0 v0,σ aq nq cq,σ ax nx cx] w λu w'=>TRs K w t u w':=by
 have a:=Bl.refl w;refine Ck func32 17 ?_;obtain⟨k,f,e,j,b,c⟩:=d;refine Hm 20 (og f32 3 3) e (#[f]++#[σ aq nq cq,σ ax nx cx]) (λ_=>b _ _ _ _ _ _ _ rfl (by kernel_rfl) (by kernel_rfl)) (R:=TRs K w t) ?_ ?_
 ·exact c
 rintro i l⟨g,h⟩;replace a:=a.go h;exact Hr 4 i ⟨_,rfl,g,a⟩
theorem FV{t:Tr}{v:Δ}(a:t=no∨∃B,Ok B t/\B<=64/\q.length<=B/\WS t)(g:TA K w t v)(e:Sk K w aq nq cq q)(i:Nb q){nx:Nat}(h:Sk K w ax nx cx x)(c:nx<=256)(l:∀b,w.heap.size<=b->K b):
 κ 32 #[v,σ aq nq cq,σ ax nx cx] w λu w'=>TRs K w (put t q x) u w':=by
 rcases a with rfl|⟨B,m,j,k,a⟩
 ·rw[show v=ν from g];exact Xal e h c
 ·have d:=a m j k i g e h c l;obtain⟨T,y,f,rfl,_⟩:=id d;exact Yl d
theorem Tk(d:TK K w k vs)(z:Sk K w a n c y)(s:n<=256){nx:Nat}(l:Sk K w ax nx cx x)(r:nx<=256)(A:∀b,w.heap.size<=b->K b)(m:Sk K w aq nq cq q)(t:nq=0):
 κ 199 #[γ (brc vs (σ a n c)),σ aq nq cq,σ ax nx cx] w λu w'=>TRs K w (put (br k y) q x) u w':=by
 have o:=Bl.refl w;refine Ck func199 31<|Hn 2 (brc vs (σ a n c)) 250 ?_;intro w1 h g f;have v:=g.hg;refine Hq 8 (nq:Int) (0:Int)<|Ha 7 (og f199 2 2) h 16 (σ ax nx cx) (λ_=>ol_setC 32 _ _ h 16 _ 250 _ f rfl (by kernel_rfl) (by kernel_rfl) (by show 16<17;omega) rfl rfl (by kernel_rfl)) ?_;intro p j;replace d:=d.go g.below;have i:Bs w1 p h:=Bs.of f (d.noint _ _ _) j;replace f:Rw h p (brc vs (σ ax nx cx)) 250:=f.set j (rfl);refine Hx 4 (og f199 3 0) (γ (brc vs (σ ax nx cx))) (λ_=>BW 250 _ _ _ _ _ _ rfl (by kernel_rfl) f υ250 rfl (by kernel_rfl)) ?_;replace o:=(o.go g.below).set j (by omega);replace l:=(l.go g.below).bs i;replace m:=(m.go g.below).bs i;replace d:=d.bs i;exact Hr 6 (.iface 250 (γ (brc vs (σ ax nx cx)))) ⟨_,rfl,(by have e:q=[]:=Aw (by have:=m.len;omega);subst e;exact⟨vs,_,_,_,rfl,d,l,r⟩),o⟩
theorem Qy(e:TK K w k vs)(D:Sk K w a n c y)(N:n<=256){nx:Nat}(E:Sk K w ax nx cx x)(I:nx<=256)(S:∀b,w.heap.size<=b->K b){j l:Nat}{r:τ}(s:i<16)(z:Sk K w (ζ j l) nq cq ((i:Int)::r))(X:0<nq)(F:w.cell? ⟨j,l+0*1,none⟩=some (η (i:Int)))(U:k i=no∨∃B,Ok B (k i)/\B<=64/\r.length<=B/\WS (k i))(O:Nb r):
 κ 199 #[γ (brc vs (σ a n c)),σ (ζ j l) nq cq,σ ax nx cx] w λu w'=>TRs K w (br (upd k i (put (k i) r x)) y) u w':=by
 have g:=Bl.refl w;refine Ck func199 31<|Hn 2 (brc vs (σ a n c)) 250 ?_;intro w1 f m d;have W:=m.hg;refine Hz 8 (nq:Int) (0:Int)<|Hx 8 (og f199 4 1) (ψ j (l+0*1)) (λ_=>AW 32 _ _ j l 0 nq cq 1 5 rfl (by kernel_rfl) (by kernel_rfl) (by omega) υ32 (by kernel_rfl)) ?_;replace g:=g.go m.below;refine Hx 0 (og f199 4 2) (η (i:Int)) (λ_=>AY 5 _ ⟨j,l+0*1,none⟩ _ _ rfl (by kernel_rfl) ((g.cell (p:=⟨j,l+0*1,none⟩) (Al F)).trans F) υ5 rfl)<|Fq 4 (λ_=>True) (trivial)<|Dx [0,1,2] 3 (og f199 5 3) (ψ f (0+i*1)) (λv H _=>ol_indexK (kd:= .u8) 248 _ _ f 0 i 16 1 69 rfl (by kernel_rfl) (by kernel_rfl) s (by omega) υ248 (by kernel_rfl)) trivial ?_;replace z:=(z.go m.below).drew;obtain⟨T,V,Q,M,L⟩:=z.cutFrom 1 (by have:=z.len;omega);refine Dx [5] 6 (og f199 5 6) (σ T V Q) (λv H=>(λ_=>M _ _ _ _ _ _ rfl (by kernel_rfl) (by kernel_rfl) rfl)) trivial<|Dy [7,9] [4] trivial ?_;replace d:=d.drew;refine Yx 4 (og f199 5 4) (vs i) (λ_=>AY 69 _ ⟨f,0+i*1,none⟩ _ _ rfl (by kernel_rfl) (by rw[A6,BE,Aj _ _ _ _ _ _ d,EQ _ _ _ s]) υ69 rfl) trivial ?_ yn;refine Dz [8] ?_;replace E:=(E.go m.below).drew;replace e:=(e.go m.below).drew;replace g:=g.drew;refine Yc 8 (R:=TRs K (w1.drew) (put (k i) r x)) ((FV U (e i s) L O E I (λb P=>S b (Au g.size P)))) (λu w' h=>trivial) ?_ yn;rintro q J⟨o,t⟩;refine Dx [] 10 (og f199 5 10) (ψ f (0+i*1)) (λv H _=>ol_indexK (kd:= .u8) 248 _ _ f 0 i 16 1 69 rfl (by kernel_rfl) (by kernel_rfl) s (by omega) υ248 (by kernel_rfl)) trivial<|Dz [11] ?_;replace d:=d.go t;refine Ya 11 (og f199 5 11) f (0+i*1) q (λ_=>ol_setC 69 _ _ f (0+i*1) _ 250 _ d rfl (by kernel_rfl) (by kernel_rfl) (by show 0+i*1<17;omega) o.cells o.one (by kernel_rfl)) (λw' h=>trivial) ?_ yn;intro G A;replace e:=e.go t;have C:Bs J G f:=Bs.of d (e.noint _ _ _) A;replace d:Rw f G (brc (updv vs i q) (σ a n c)) 250:=d.set A (by rw[A6,BE];exact FT _ _ _ _ s);refine Do<|Hx 3 (og f199 6 0) (γ (brc (updv vs i q) (σ a n c))) (λ_=>BW 250 _ _ _ _ _ _ rfl (by kernel_rfl) d υ250 rfl (by kernel_rfl)) ?_;replace D:=(((D.go m.below).drew).go t).bs C;replace g:=(g.go t).set A (by omega);replace e:=e.bs C;replace o:=o.bs C;exact Hr 5 (.iface 250 (γ (brc (updv vs i q) (σ a n c)))) ⟨_,rfl,⟨updv vs i q,_,_,_,rfl,e.put o,D,N⟩,g⟩
theorem H9(l:TK K w k vs)(m:Sk K w a n c y)(h:n<=256){nx:Nat}(s:Sk K w ax nx cx x)(e:nx<=256)(p:∀b,w.heap.size<=b->K b)(d:Sk K w aq nq cq q)(f:Nb q)
 (A:∀(i:Nat)(r:τ),q=(i:Int)::r->k i=no∨∃B,Ok B (k i)/\B<=64/\r.length<=B/\WS (k i)):
 κ 199 #[γ (brc vs (σ a n c)),σ aq nq cq,σ ax nx cx] w λu w'=>TRs K w (put (br k y) q x) u w':=by
 cases q with
 |nil=>exact Tk l m h s e p d d.len.symm
 |cons i r=>
  obtain⟨g,o,rfl,t,z⟩:=d.head;have v:=f.head;obtain⟨j,rfl⟩:=Df v.1;exact Qy l m h s e p (by omega) d z t (A j r rfl) f.tail
theorem NB(k:Nat->Tr)(y q v:τ)(h:∀i r,q=i::r->k i.toNat=no):put (br k y) q v=add k y q v:=by
 cases q with
 |nil=>rfl
 |cons i r=>simp only[put,add,h i r rfl]
theorem Vq(k:Nat->Tr)(y q v:τ):∃a b,put (br k y) q v=br a b:=by
 cases q with
 |nil=>exact⟨_,_,rfl⟩
 |cons i r=>exact⟨_,_,rfl⟩
theorem Vr(p:τ){t:Tr}(h:t≠no):und p t≠no:=by
 cases t with
 |no=>exact absurd rfl h
 |leaf q v=>simp[und]
 |ext q c=>simp[und]
 |br k v=>simp only[und];split<;>simp
theorem Xam(t:Tr)(q v:τ):put t q v≠no:=by
 cases t with
 |no=>simp[put]
 |leaf p x=>
  simp only[put];split
  ·simp
  ·refine Vr _ ?_;cases p.drop (Ni.com p q)<;>cases q.drop (Ni.com p q)<;>simp[addT,add]
 |ext p c=>
  simp only[put];split
  ·simp
  ·refine Vr _ ?_;cases q.drop (Ni.com p q)<;>simp[add]
 |br k x=>cases q<;>simp[put]
theorem Vs{v:τ}(n:q≠p)(s:Nb p)(u:Nb q):∃k1 k,put (br nk []) (p.drop (Ni.com p q)) x=br k1 k/\(∀(i:Nat)(r:τ),q.drop (Ni.com p q)=(i:Int)::r->k1 i=no)/\
 put (leaf p x) q v=und (q.take (Ni.com p q)) (put (br k1 k) (q.drop (Ni.com p q)) v):=by
 obtain⟨Q,a,b,t,z,d,hd⟩:=Gg p q;have l:p.drop (Ni.com p q)=a:=by
  rw[d]
  conv=>lhs;rw[t];simp
 have m:q.drop (Ni.com p q)=b:=by
  rw[d]
  conv=>lhs;rw[z];simp
 have g:Nb b:=by rw[<-m];exact u.drop _
 have y:Nb a:=by rw[<-l];exact s.drop _
 simp only[put];rw[Ae n,l,m];cases a with
 |nil=>
  refine⟨nk,x,rfl,λ_ _ _=>rfl,?_⟩;simp only[add,addT];rw[NB nk x b v (λ_ _ _=>rfl)];rfl
 |cons i a'=>
  have c:∀(j:Int)(r:τ),b=j::r->upd nk i.toNat (leaf a' x) j.toNat=no:=by
   intro j r e;rcases hd with h|h|⟨D,E,C,A,w,f,o⟩
   ·cases h
   ·rw[h]at e;cases e
   ·cases w;rw[e]at f;cases f;rw[Cc]
    ·rfl
    ·intro h;have F:=y.head;rw[e]at g;have B:=g.head;exact o (by omega)
  refine⟨upd nk i.toNat (leaf a' x),[],rfl,λj r e=>c _ r e,?_⟩;simp only[add,addT];rw[NB _ _ b v c];rfl
theorem Yn{v:τ}{c:Tr}(k:Ni.com p q<p.length)(m:Nb q)(i:Nat)(g:p.getD (Ni.com p q) 0=(i:Int)):
 (∀(j:Nat)(r:τ),q.drop (Ni.com p q)=(j:Int)::r->upd nk i (und (p.drop (Ni.com p q+1)) c) j=no)/\
 put (ext p c) q v=und (q.take (Ni.com p q)) (put (br (upd nk i (und (p.drop (Ni.com p q+1)) c)) []) (q.drop (Ni.com p q)) v):=by
 have b:∀(j:Int)(r:τ),q.drop (Ni.com p q)=j::r->upd nk i (und (p.drop (Ni.com p q+1)) c) j.toNat=no:=by
  intro j r e;have a:Ni.com p q<q.length:=by
   have:=Ao List.length e;rw[A3,AE]at this;omega
  have f:=Ni.com_stop p q k a;have n:q.getD (Ni.com p q) 0=j:=by
   rw[Bv a]at e;injection e with l s;rw[<-l];simp[List.getD,Ad a]
  rw[g,n]at f;have d:Nb (q.drop (Ni.com p q)):=m.drop _;rw[e]at d;have o:=d.head;rw[Cc]
  ·rfl
  ·intro h;exact f (by omega)
 refine⟨λj r e=>b _ r e,?_⟩;simp only[put];rw[Ae (by omega),g,NB _ _ _ _ b];rfl
theorem Sx.apart{cells:Ξ}{T:TypeId}{p:Addr}{x v:Δ}(h:Sx g cells T p x w)(a:Set1 w w' g' o v)(c:g≠g')(b:p.block≠g'):Sx g cells T p x w':=
 ⟨h.r.apart a c,(Av (a.other b)).trans h.c⟩
theorem Sk.nth{bs:τ}(h:Sk K w a n c bs)(f:m<n):∃g o,a=some ⟨g,o,none⟩/\w.cell? ⟨g,o+m*1,none⟩=some (η (bs.getD m 0)):=by
 have i:=h.len;rcases h.ag.i with⟨b,d⟩|⟨gb,off,b,d,l,j,k,e⟩
 ·omega
 ·exact⟨gb,off,b,by rw[BE];exact e m (by omega)⟩
theorem Tl{x0:τ}(k:Sk K w a n c p)(Q:Sk K w a' n' c' x0)(av:n'<=256)(f:Sk K w aq nq cq q){nx:Nat}(t:Sk K w ax nx cx x)(X:nx<=256)(hK:∀b,w.heap.size<=b->K b)(ac:Nb p)(ab:Nb q)(ba:p.length<=64)(a7:q.length<=64):
 κ 197 #[γ #[σ a n c,σ a' n' c'],σ aq nq cq,σ ax nx cx] w λu w'=>TRs K w (put (leaf p x0) q x) u w':=by
 have g:=Bl.refl w;have lp:=k.len;have lq:=f.len;refine Ck func197 43<|Hn 2 (#[σ a n c,σ a' n' c']) 102 ?_;intro w1 g2 o d;refine Hl 8 d 0 32 (σ a n c) ?_;replace k:=k.go o.below;replace f:=f.go o.below;refine Hc 0 (R:=λu w'=>u=β (decide (q=p))/\Bl (w1) w') ((EX f k)) ?_;rintro _ u5⟨rfl,l⟩;by_cases C:q=p
 ·skip
  rw[show decide (q=p)=true from AF C];replace g:=(g.go o.below).go l;replace t:=(t.go o.below).go l;replace f:=f.go l;exact Hr 14 (.iface 102 (γ #[σ aq nq cq,σ ax nx cx])) ⟨_,rfl,(by simp only[put];rw[Ai C];exact⟨_,_,_,_,_,_,rfl,f,t,X⟩),g⟩
 ·skip
  rw[show decide (q=p)=false from Bi C];obtain⟨k1,y1,e1,U,e3⟩:=Vs (x:=x0) (v:=x) C ac ab;obtain⟨k2,D,P⟩:=Vq k1 y1 (q.drop (Ni.com p q)) x;have V:=Ni.com_le p q;obtain⟨m,hm⟩:∃m,Ni.com p q=m:=⟨_,rfl⟩;rw[hm]at e1 U e3 P V;obtain⟨bf,bc⟩:=V;replace d:=d.go l;refine Hl 8 d 0 32 (σ a n c) ?_;replace k:=k.go l;replace f:=f.go l;refine Hc 1 (R:=λu w'=>u=ι (m:Int)/\Bl (u5) w') (((Ni.common_any _ _ _ _ _ _ p q _ k.ag f.ag (by omega) (by omega)).mono (λe w' h=>⟨_,by rw[h.1,hm],rfl,h.2⟩))) ?_;rintro _ u7⟨rfl,s⟩;replace d:=d.go s;refine Fq 4 (λv=>Rw g2 v (#[σ a n c,σ a' n' c']) 102) (d.drew) ?_;replace d:=d.drew;refine Dx [] 0 (og f197 4 0) (γ (brc (λ_=>ν) (ε))) (λv j=>(λ_=>by kernel_rfl)) d<|Dl [1] 2 (λv j=>j) 0 32 (σ a n c) d ?_;replace k:=(k.go s).drew;obtain⟨a9,am,a3,al,ak⟩:=k.cutFrom m (by have:=k.len;omega);refine Dx [3] 4 (og f197 4 4) (σ a9 am a3) (λv j=>(λ_=>al _ _ _ _ _ _ rfl (by kernel_rfl) (by kernel_rfl) rfl)) d<|Dl [5] 6 (λv j=>j) 1 32 (σ a' n' c') d ?_;replace f:=(f.go s).drew;obtain⟨H,I,L,af,E⟩:=f.cutFrom m (by have:=f.len;omega);refine Dx [8,9] 10 (og f197 4 10) (σ H I L) (λv j=>(λ_=>af _ _ _ _ _ _ rfl (by kernel_rfl) (by kernel_rfl) rfl)) d ?_;obtain⟨aa,Y,Z,ah,F⟩:=f.cutTo m (by have:=f.len;omega);refine Dx [11,16,17] 18 (og f197 4 18) (σ aa Y Z) (λv j=>(λ_=>ah _ _ _ _ _ _ rfl (by kernel_rfl) (by kernel_rfl) rfl)) d<|Dz [7] ?_;replace g:=(((g.go o.below).go l).go s).drew;replace Q:=(((Q.go o.below).go l).go s).drew;refine Yc 7 (R:=TRs K (u7.drew) (br k1 y1)) ((by rw[<-e1];exact H9 (TK.none K _) (Sk.nil K _) (by omega) Q av (λb O=>hK b (Au g.size O)) ak (ac.drop _) (λi r e=> .inl rfl))) (λu w' h=>d.go h.2) ?_ yn;rintro _ B⟨⟨z,S,T,c1,rfl,N,ap,ar⟩,y⟩;replace N:TK K B k1 z:=N;replace d:=d.go y;refine Dx [] 12 (og f197 4 12) (.func (.method "pergola/trie.with") #[.iface 250 (γ (brc z (σ S T c1)))] #[]) (λv j=>(λ_=>by kernel_rfl)) d<|Dx [] 13 (og f197 4 13) (.func (.method "pergola/trie.with") #[.iface 250 (γ (brc z (σ S T c1)))] #[]) (λv j=>(λ_=>by kernel_rfl)) d<|Dy [14] [15] d ?_;replace t:=((((t.go o.below).go l).go s).drew).go y;replace g:=g.go y;replace E:=E.go y;obtain⟨bg,ao,ay,a5,ai,ad⟩:=(show MC "pergola/trie.with" (.iface 250 (γ (brc z (σ S T c1)))) #[σ H I L,σ ax nx cx] (B) (TRs K (B) (br k2 D))from⟨_,_,_,rfl,M5 _,by rw[<-P];exact H9 N ap ar t X (λb O=>hK b (Au g.size O)) E (ab.drop _) (λi r e=> .inl (U i r e))⟩);refine Ym 15 (og f197 4 15) ay (#[ao]++#[σ H I L,σ ax nx cx]) (λ_=>ai _ _ _ _ _ _ _ rfl (by kernel_rfl) (by kernel_rfl)) (R:=TRs K (B) (br k2 D)) ?_ (λu w' h=>d.go h.2) ?_ yn
  ·exact ad
  rintro _ J⟨⟨A,a2,n2,c2,rfl,M,a0,a4⟩,G⟩;replace M:TK K J k2 A:=M;replace d:=d.go G;refine Dx [] 19 (og f197 4 19) (.func (.method "pergola/trie.under") #[.iface 250 (γ (brc A (σ a2 n2 c2)))] #[]) (λv j=>(λ_=>by kernel_rfl)) d<|Dx [] 20 (og f197 4 20) (.func (.method "pergola/trie.under") #[.iface 250 (γ (brc A (σ a2 n2 c2)))] #[]) (λv j=>(λ_=>by kernel_rfl)) d<|Dy [21] [22] d ?_;replace F:=(F.go y).go G;obtain⟨a8,aw,az,a6,ae,aj⟩:=(Vp (show TA K (J) (br k2 D) _ from⟨A,_,_,_,rfl,M,a0,a4⟩) F);refine Ym 22 (og f197 4 22) az (#[aw]++#[σ aa Y Z]) (λ_=>ae _ _ _ _ _ _ _ rfl (by kernel_rfl) (by kernel_rfl)) (R:=TRs K (J) (und (q.take m) (br k2 D))) ?_ (λu w' h=>d.go h.2) ?_ yn
  ·exact aj
  rintro vR bb⟨ht,W⟩;replace d:=d.go W;refine Dq [23] d ?_;replace g:=(g.go G).go W;exact Hr 2 vR ⟨_,rfl,(by rw[e3,P];exact ht),g⟩
theorem Vt{t:Tr}(g:Sk K w a n c p)(r:TA K w t (.iface Tu xu))(L:Ok B t)(f:Sk K w aq nq cq q){nx:Nat}(s:Sk K w ax nx cx x)(J:nx<=256)(S:∀b,w.heap.size<=b->K b)(E:Ni.com p q=m)(O:Nb q)(ac:p.length<=64)(W:q.length<=p.length+B)(ad:p.length+B<=64)(Z:m=n)(U:WS t):
 κ 213 #[γ #[σ a n c, .iface Tu xu],σ aq nq cq,σ ax nx cx] w λu w'=>TRs K w (put (ext p t) q x) u w':=by
 have l:=Bl.refl w;have lp:=g.len;have lq:=f.len;have y:=Ni.com_le p q;rw[E]at y;obtain⟨X,Y⟩:=y;refine Ck func213 61<|Hn 2 (#[σ a n c, .iface Tu xu]) 255 ?_;intro w1 Q j d;have ab:=j.hg;refine Hl 6 d 0 32 (σ a n c) ?_;replace g:=g.go j.below;replace f:=f.go j.below;refine Hc 1 (R:=λu w'=>u=ι (m:Int)/\Bl (w1) w') (((Ni.common_any _ _ _ _ _ _ p q _ g.ag f.ag (by omega) (by omega)).mono (λe w' h=>⟨_,by rw[h.1,E],rfl,h.2⟩))) ?_;rintro _ T⟨rfl,i⟩;replace d:=d.go i;refine Hl 8 d 0 32 (σ a n c)<|Hq 1 (m:Int) (n:Int)<|Fq 4 (λv=>Rw Q v (#[σ a n c, .iface Tu xu]) 255) (d.drew) ?_;replace d:=d.drew;refine Dl [0] 1 (λv k=>k) 0 32 (σ a n c) d<|Dl [2] 3 (λv k=>k) 1 69 (.iface Tu xu) d ?_;replace f:=(f.go i).drew;obtain⟨z,D,C,H,I⟩:=f.cutFrom m (by have:=f.len;omega);refine Dx [4,5] 6 (og f213 3 6) (σ z D C) (λv k=>(λ_=>H _ _ _ _ _ _ rfl (by kernel_rfl) (by kernel_rfl) rfl)) d<|Dx [7] 8 (og f213 3 8) (.iface Tu xu) (λv k=>(λ_=>by kernel_rfl)) d<|Dy [9] [10] d ?_;replace l:=((l.go j.below).go i).drew;replace s:=((s.go j.below).go i).drew;replace r:=((r.go j.below).go i).drew;obtain⟨aa,N,M,V,F,G⟩:=(U L (by omega) (by rw[A3];omega) (O.drop _) r I s J (λb P=>S b (Au l.size P)));refine Ym 10 (og f213 3 10) M (#[N]++#[σ z D C,σ ax nx cx]) (λ_=>F _ _ _ _ _ _ _ rfl (by kernel_rfl) (by kernel_rfl)) (R:=TRs K (T.drew) (put t (q.drop m) x)) ?_ (λu w' h=>d.go h.2) ?_ yn
 ·exact G
 rintro vR ae⟨A,o⟩;obtain⟨T2,x2,rfl⟩:=A.iface (Xam _ _ _);replace d:=d.go o;refine Dx [] 11 (og f213 3 11) (γ #[σ a n c, .iface T2 x2]) (λv k=>(λ_=>by kernel_rfl)) d<|Dq [12,13] d ?_;replace g:=((g.go i).drew).go o;replace l:=l.go o;exact Hr 3 (.iface 255 (γ #[σ a n c, .iface T2 x2])) ⟨_,rfl,(by simp only[put];rw[Ai (by omega)];have e:m=p.length:=(by omega);subst e;exact⟨_,_,_,_,rfl,g,A⟩),l⟩
theorem Qz{gp g:Nat}(hi:i<16){t:Tr}(s:Sk K w (ζ gp g) n c p)(N:TA K w t (.iface Tu xu))(az:Ok B t)(k:Sk K w aq nq cq q){nx:Nat}(U:Sk K w ax nx cx x)(ay:nx<=256)(hK:∀b,w.heap.size<=b->K b)(W:Ni.com p q=m)(ai:Nb q)(bj:p.length<=64)(bh:q.length<=p.length+B)(bv:p.length+B<=64)(bq:m<n)(a0:p.getD (Ni.com p q) 0=(i:Int))(M:w.cell? ⟨gp,g+m*1,none⟩=some (η (i:Int))):
 κ 213 #[γ #[σ (ζ gp g) n c, .iface Tu xu],σ aq nq cq,σ ax nx cx] w λu w'=>TRs K w (put (ext p t) q x) u w':=by
 have j:=Bl.refl w;have lp:=s.len;have lq:=k.len;have Z:=Ni.com_le p q;obtain⟨Y,e3⟩:=Yn (c:=t) (v:=x) (by omega) ai i a0;obtain⟨k2,X,T⟩:=Vq (upd nk i (und (p.drop (Ni.com p q+1)) t)) [] (q.drop (Ni.com p q)) x;rw[W]at Y e3 T;rw[W]at Z;obtain⟨bp,bo⟩:=Z;refine Ck func213 61<|Hn 2 (#[σ (ζ gp g) n c, .iface Tu xu]) 255 ?_;intro w1 V A l;have bu:=A.hg;refine Hl 6 l 0 32 (σ (ζ gp g) n c) ?_;replace s:=s.go A.below;replace k:=k.go A.below;refine Hc 1 (R:=λu w'=>u=ι (m:Int)/\Bl (w1) w') (((Ni.common_any _ _ _ _ _ _ p q _ s.ag k.ag (by omega) (by omega)).mono (λe w' h=>⟨_,by rw[h.1,W],rfl,h.2⟩))) ?_;rintro _ u5⟨rfl,z⟩;replace l:=l.go z;refine Hl 8 l 0 32 (σ (ζ gp g) n c)<|Hz 1 (m:Int) (n:Int) ?_;have bn:=lt_of_get l;refine Hn 7 (brc (λ_=>ν) (ε)) 250 ?_;intro w7 o y a;have bi:=y.hg;replace j:=((j.go A.below).go z).go y.below;have bl:=j.size;have bb:V<o:=by omega
 have bw:gp<w.heap.size:=Al M;replace l:=l.go y.below;have f:Sx V (#[σ (ζ gp g) n c, .iface Tu xu]) 255 ⟨gp,g+m*1,none⟩ (η (i:Int)) w7:=⟨l,(j.cell (p:=⟨gp,g+m*1,none⟩) (Al M)).trans M⟩;refine Fq 3 (λv=>Sx V (#[σ (ζ gp g) n c, .iface Tu xu]) 255 ⟨gp,g+m*1,none⟩ (η (i:Int)) v) (f.drew) ?_;replace f:=f.drew;refine Dl [0] 1 (λv d=>d.r) 0 32 (σ (ζ gp g) n c) f<|Dx [2] 3 (og f213 5 3) (ψ gp (g+m*1)) (λv d _=>AW 32 _ _ gp g m n c 1 5 rfl (by kernel_rfl) (by kernel_rfl) (by omega) υ32 (by kernel_rfl)) f<|Dx [] 4 (og f213 5 4) (η (i:Int)) (λv d _=>AY 5 _ _ _ _ rfl (by kernel_rfl) d.c υ5 rfl) f<|Dl [5] 6 (λv d=>d.r) 1 69 (.iface Tu xu) f<|Dl [7] 8 (λv d=>d.r) 0 32 (σ (ζ gp g) n c) f<|Dx [9] 10 (og f213 5 10) (ι ((m+1:Nat):Int)) (λv d _=>E1 (v:=ι (IntKind.i64.wrap ((m:Int)+1))) (by kernel_rfl) (Ao (Value.int .i64) (by rw[Cy (by omega) (by omega)];rfl))) f ?_;replace s:=((s.go z).go y.below).drew;obtain⟨ae,ah,af,al,av⟩:=s.cutFrom (m+1) (by have:=s.len;omega);refine Dx [] 11 (og f213 5 11) (σ ae ah af) (λv d=>(λ_=>al _ _ _ _ _ _ rfl (by kernel_rfl) (by kernel_rfl) rfl)) f<|Dx [] 12 (og f213 5 12) (.iface Tu xu) (λv d=>(λ_=>by kernel_rfl)) f<|Dy [13,15] [14] f ?_;replace N:=(((N.go A.below).go z).go y.below).drew;replace j:=j.drew;obtain⟨bm,a5,a1,bc,ar,aj⟩:=(Qx t az N av (by rw[A3];omega) (by omega) (λb S=>hK b (Au j.size S)));refine Ym 14 (og f213 5 14) a1 (#[a5]++#[σ ae ah af]) (λ_=>ar _ _ _ _ _ _ _ rfl (by kernel_rfl) (by kernel_rfl)) (R:=TRs K (w7.drew) (und (p.drop (m+1)) t)) ?_ (λu w' h=>f.go h.2) ?_ yn
 ·exact aj
 rintro E ab⟨D,C⟩;replace f:=f.go C;refine Dx [] 16 (og f213 5 16) (ψ o (0+i*1)) (λv d _=>ol_indexK (kd:= .u8) 248 _ _ o 0 i 16 1 69 rfl (by kernel_rfl) (by kernel_rfl) hi (by omega) υ248 (by kernel_rfl)) f<|Dz [17] ?_;replace a:=a.drew.go C;refine Ya 17 (og f213 5 17) o (0+i*1) E (λ_=>ol_setC 69 _ _ o (0+i*1) _ 250 _ a rfl (by kernel_rfl) (by kernel_rfl) (by show 0+i*1<17;omega) D.cells D.one (by kernel_rfl)) (λw' h=>f.apart h (by omega) (by show gp≠_;omega)) ?_ yn;intro F H;have L:Bs ab F o:=Bs.of a ((TK.none K ab).noint _ _ _) H;replace a:Rw o F (brc (updv (λ_=>ν) i E) (ε)) 250:=a.set H (by rw[A6,BE];exact FT _ _ _ _ hi);replace D:=D.bs L;have Q:TK K F (upd nk i (und (p.drop (m+1)) t)) (updv (λ_=>ν) i E):=(TK.none K _).put D;refine Do<|Fq 2 (λv=>Rw o v (brc (updv (λ_=>ν) i E) (ε)) 250) (a.drew) ?_;replace a:=a.drew;refine Dx [] 0 (og f213 6 0) (γ (brc (updv (λ_=>ν) i E) (ε))) (λv d _=>BW 250 _ _ _ _ _ _ rfl (by kernel_rfl) d υ250 rfl (by kernel_rfl)) a ?_;replace k:=(((((k.go z).go y.below).drew).go C).bs L).drew;obtain⟨a3,a6,a8,ak,aw⟩:=k.cutFrom m (by have:=k.len;omega);refine Dx [1,2] 3 (og f213 6 3) (σ a3 a6 a8) (λv d=>(λ_=>ak _ _ _ _ _ _ rfl (by kernel_rfl) (by kernel_rfl) rfl)) a ?_;obtain⟨ad,ac,c33,am,I⟩:=k.cutTo m (by have:=k.len;omega);refine Dx [4,6,7] 8 (og f213 6 8) (σ ad ac c33) (λv d=>(λ_=>am _ _ _ _ _ _ rfl (by kernel_rfl) (by kernel_rfl) rfl)) a<|Dz [5] ?_;replace U:=((((((U.go A.below).go z).go y.below).drew).go C).bs L).drew;replace j:=((j.go C).set H (by omega)).drew;replace Q:=Q.drew;refine Yc 5 (R:=TRs K (F.drew) (br k2 X)) ((by rw[<-T];exact H9 Q (Sk.nil K _) (by omega) U ay (λb S=>hK b (Au j.size S)) aw (ai.drop _) (λi r e=> .inl (Y i r e)))) (λu w' h=>a.go h.2) ?_ yn;rintro _ P⟨⟨G,a2,n2,c2,rfl,O,a7,ba⟩,J⟩;replace O:TK K P k2 G:=O;replace a:=a.go J;refine Dx [] 9 (og f213 6 9) (.func (.method "pergola/trie.under") #[.iface 250 (γ (brc G (σ a2 n2 c2)))] #[]) (λv d=>(λ_=>by kernel_rfl)) a<|Dx [] 10 (og f213 6 10) (.func (.method "pergola/trie.under") #[.iface 250 (γ (brc G (σ a2 n2 c2)))] #[]) (λv d=>(λ_=>by kernel_rfl)) a<|Dy [11] [12] a ?_;replace I:=I.go J;obtain⟨bk,a9,a4,bf,ap,ao⟩:=(Vp (show TA K (P) (br k2 X) _ from⟨G,_,_,_,rfl,O,a7,ba⟩) I);refine Ym 12 (og f213 6 12) a4 (#[a9]++#[σ ad ac c33]) (λ_=>ap _ _ _ _ _ _ _ rfl (by kernel_rfl) (by kernel_rfl)) (R:=TRs K (P) (und (q.take m) (br k2 X))) ?_ (λu w' h=>a.go h.2) ?_ yn
 ·exact ao
 rintro vR bg⟨ht,aa⟩;replace a:=a.go aa;refine Dq [13] a ?_;replace j:=(j.go J).go aa;exact Hr 2 vR ⟨_,rfl,(by rw[e3,T];exact ht),j⟩
theorem Xan(t:Tr):WS t:=by
 induction t with
 |no=>intro K w v a n c q a' n' c' x B d;exact d.elim
 |leaf p x0=>
  intro K w v a n c q a' n' c' x B d D E l C s A j z;obtain⟨N,H,c1,X,Y,c2,rfl,b,f,F⟩:=C;exact⟨_,_,_,rfl,Te _,Tl b f F s A j z d.1 l (Au d.2.1 D) (Au E D)⟩
 |ext p t G=>
  intro K w v a n c q a' n' c' x B d D E l C s A j z;obtain⟨N,H,c1,u,rfl,b,f⟩:=C;obtain⟨Q,V,W,L,J⟩:=d;obtain⟨Tu,xu,rfl⟩:=f.iface (λe=>by rw[e]at L;simp[isBr]at L);have U:=b.len;have S:=Ni.com_le p q;refine⟨_,_,_,rfl,Tf _,?_⟩;by_cases R:Ni.com p q=H
  ·exact Vt b f J s A j z rfl l (by omega) (by omega) (by omega) R G
  ·obtain⟨g,o,rfl,O⟩:=b.nth (m:=Ni.com p q) (by omega);have P:p.getD (Ni.com p q) 0∈p:=by
    rw[Ew,Ad (by omega)];exact Bh _
   have M:=Q _ P;obtain⟨i,I⟩:=Df M.1;rw[I]at O M;exact Qz (i:=i) (by omega) b f J s A j z rfl l (by omega) (by omega) (by omega) (by omega) I O
 |br k y G=>
  intro K w v a n c q a' n' c' x B d D E l C s A j z;obtain⟨vs,N,H,c1,rfl,b,f,F⟩:=C;refine⟨_,_,_,rfl,M5 _,H9 b f F A j z s l ?_⟩;rintro i r rfl;rcases d.1 i with h|⟨_,T,h⟩
  ·exact .inl h
  ·exact .inr ⟨_,h,by omega,by rw[AE]at E;omega,G i⟩
def bra(vs:Nat->Δ):Ξ:=#[vs 0,vs 1,vs 2,vs 3,vs 4,vs 5,vs 6,vs 7,vs 8,vs 9,vs 10,vs 11,vs 12,vs 13,vs 14,vs 15]
theorem ol_arr{w:Γ}{g:Nat}{vs:Nat->Δ}{s:Δ}{ρ:Φ}{o:Oper}(h:Rw g w (brc vs s) 250)(x:Operand)(c:o.op= .load 248 x)(d:ρ x=π g):(execOp ρ o).run prog w= .ok (.value (γ (bra vs))) w:=by
 refine Em 248 x g 0 [vs 0,vs 1,vs 2,vs 3,vs 4,vs 5,vs 6,vs 7,vs 8,vs 9,vs 10,vs 11,vs 12,vs 13,vs 14,vs 15] _ c d ?_ υ248 rfl (by kernel_rfl);intro j v a;have b:j<16:=(Ar.1 a).1;rw[A6,Aj _ _ _ _ _ _ h,EQ _ _ _ b]
 match j,b,a with
 |0,_,a=>exact a
 |1,_,a=>exact a
 |2,_,a=>exact a
 |3,_,a=>exact a
 |4,_,a=>exact a
 |5,_,a=>exact a
 |6,_,a=>exact a
 |7,_,a=>exact a
 |8,_,a=>exact a
 |9,_,a=>exact a
 |10,_,a=>exact a
 |11,_,a=>exact a
 |12,_,a=>exact a
 |13,_,a=>exact a
 |14,_,a=>exact a
 |15,_,a=>exact a
 |n+16,b,_=>omega
theorem ix_arr(vs:Nat->Δ)(w:Γ):∀j:Nat,j<16->(Instr.index 248 (γ (bra vs)) (ι (j:Int))).run prog w= .ok (vs j) w
 |0,_=>by kernel_rfl
 |1,_=>by kernel_rfl
 |2,_=>by kernel_rfl
 |3,_=>by kernel_rfl
 |4,_=>by kernel_rfl
 |5,_=>by kernel_rfl
 |6,_=>by kernel_rfl
 |7,_=>by kernel_rfl
 |8,_=>by kernel_rfl
 |9,_=>by kernel_rfl
 |10,_=>by kernel_rfl
 |11,_=>by kernel_rfl
 |12,_=>by kernel_rfl
 |13,_=>by kernel_rfl
 |14,_=>by kernel_rfl
 |15,_=>by kernel_rfl
 |n+16,h=>by omega
theorem ol_ixa{ρ:Φ}{w:Γ}{o:Oper}(x y:Operand)(vs:Nat->Δ)(j:Nat)(a:j<16)(d:o.op= .index 248 x y)(c:ρ x=γ (bra vs))(b:ρ y=ι (j:Int)):(execOp ρ o).run prog w= .ok (.value (vs j)) w:=by
 unfold execOp;rw[d];simp only[c,b,AO,ix_arr vs w j a,A4,AV]
theorem ol_nen{K:Θ}{w0 w:Γ}{t:Tr}{v:Δ}(h:TA K w0 t v){ρ:Φ}{o:Oper}(i:Nat)(r:TypeId)(a:o.op= .binOp .neq 69 (.tmp i) (.const ν) r)(c:ρ (.tmp i)=v)(b:ρ (.const ν)=ν):(execOp ρ o).run prog w= .ok (.value (β (!t.isNo))) w:=by
 unfold execOp;rw[a];simp only[c,b];cases t with
 |no=>rw[show v=ν from h];kernel_rfl
 |leaf p x=>obtain⟨_,_,_,_,_,_,rfl,_⟩:=h;kernel_rfl
 |ext p t=>obtain⟨_,_,_,_,rfl,_⟩:=h;kernel_rfl
 |br k x=>obtain⟨_,_,_,_,rfl,_⟩:=h;kernel_rfl
theorem wrap8(h:n<16):IntKind.u8.wrap (n:Int)=n:=by unfold IntKind.wrap;simp[IntKind.bits,IntKind.signed];omega
def DS(t:Tr):Prop:=∀{K:Θ}{w:Γ}{v:Δ}{a:Ω}{n c:Nat}{q:τ}{B:Nat},Ok B t->B<=64->Nb q->Tr.get t q≠[]->TA K w t v->Sk K w a n c q->(∀b,w.heap.size<=b->K b)->MC "pergola/trie.without" v #[σ a n c] w (TRs K w (del t q))
theorem kids_le(k:Nat->Tr):∀j,kidsN k j<=j
 |0=>Ab _
 |j+1=>by have:=kids_le k j;simp only[kidsN];split<;>omega
theorem Tm(k:Nat->Tr)(x:τ):(kidsN k 16=0/\nrm k x=leaf [] x)∨(kidsN k 16=1/\x=[]/\nrm k x=und [((lastN k 16:Nat):Int)] (k (lastN k 16)))∨(kidsN k 16=1/\x≠[]/\nrm k x=br k x)∨(2<=kidsN k 16/\nrm k x=br k x):=by
 unfold nrm;by_cases a:kidsN k 16=0
 ·exact .inl ⟨a,Ai a⟩
 ·by_cases b:kidsN k 16=1
  ·by_cases c:x=[]
   ·exact .inr (.inl ⟨b,c,by rw[Ae a,Ai ⟨b,c⟩]⟩)
   ·exact .inr (.inr (.inl ⟨b,c,by rw[Ae a,Ae (λh=>c h.2)]⟩))
  ·exact .inr (.inr (.inr ⟨by omega,by rw[Ae a,Ae (λh=>b h.1)]⟩))
theorem normal_any(e:TK K w k vs)(f:Sk K w a n c x)(y:n<=256)(hO:∀i,k i=no∨(i<16/\1<=B/\Ok (B-1) (k i)))(ae:B<=64)(I:∀b,w.heap.size<=b->K b):
 κ 205 #[γ (brc vs (σ a n c))] w λu w'=>TRs K w (nrm k x) u w':=by
 have d:=Bl.refl w;refine Ck func205 45<|Hn 2 (brc vs (σ a n c)) 250 ?_;intro w1 q g m;refine Hx 13 (og f205 2 1) (γ (bra vs)) (λ_=>ol_arr m _ rfl (by kernel_rfl))<|Ho (X:=Nat) 4 (λj=>[(9,ι (j:Int)),(3,ι ((kidsN k j:Nat):Int)),(4,ι ((lastN k j:Nat):Int)),(8,γ (bra vs)),(1,π q),(2,ν)]) (λj v=>v=w1/\j<=16) (λj=>16-j) 0 ⟨rfl,A8 _⟩ ?_;rintro j v⟨M,hj⟩ I1 F;rw[M];clear M v;by_cases E:j<16
 ·skip
  have ac:kidsN k j<=j:=kids_le k j;refine Ht 2 ((j:Int)<(16:Int))<|Hx 11 (og f205 4 1) (vs j) (λ_=>ol_ixa _ _ vs j E rfl (by kernel_rfl) (by kernel_rfl)) ?_;replace e:=e.go g.below;refine Hx 7 (og f205 5 1) (β (!(k j).isNo)) (λ_=>ol_nen (e j E) _ _ rfl (by kernel_rfl) (by kernel_rfl)) ?_;cases p:(k j).isNo with
  |true=>
   have A:kidsN k (j+1)=kidsN k j:=(by simp[kidsN,p]);have C:lastN k (j+1)=lastN k j:=(by simp[lastN,p]);rw[<-A,<-C];refine Hi 7 ((j:Int)+1) ((j+1:Nat):Int) ?_;exact F 2 (j+1) ⟨rfl,by omega⟩ (by omega) (λ_=>by kernel_rfl)
  |false=>
   have A:kidsN k (j+1)=kidsN k j+1:=(by simp[kidsN,p]);have C:lastN k (j+1)=j:=(by simp[lastN,p]);refine Hw 5 (ι (IntKind.i64.wrap (((kidsN k j:Nat):Int)+1))) (ι ((kidsN k (j+1):Nat):Int)) (Ao (Value.int .i64) (by rw[Cy (by omega) (by omega),A];rfl))<|Hw 0 (ι (j:Int)) (ι ((lastN k (j+1):Nat):Int)) (by rw[C])<|Hi 6 ((j:Int)+1) ((j+1:Nat):Int) ?_;exact F 2 (j+1) ⟨rfl,by omega⟩ (by omega) (λ_=>by kernel_rfl)
 obtain rfl:j=16:=by omega
 refine Hb 2 (decide (((16:Nat):Int)<(16:Int))) false (rfl) ?_;rcases Tm k x with⟨h0,l⟩|⟨D,z,l⟩|⟨D,z,l⟩|⟨D,l⟩
 ·skip
  replace f:=f.go g.below;have r:=f.len;refine Hq 14 ((kidsN k 16:Nat):Int) (0:Int)<|Hl 7 m 16 32 (σ a n c) ?_;replace d:=d.go g.below;exact Hr 8 (.iface 102 (γ #[ε,σ a n c])) ⟨_,rfl,(by rw[l];exact⟨_,_,_,_,_,_,rfl,Sk.nil _ _,f,y⟩),d⟩
 ·skip
  replace f:=f.go g.below;have r:=f.len;obtain⟨o,s,_⟩:=Mz D;obtain⟨L,hL⟩:∃L,lastN k 16=L:=⟨_,rfl⟩;rw[hL]at o s l⊢;replace e:=e.go g.below;obtain⟨TL,Z,J⟩:=(e L o).iface s;refine Hz 14 ((kidsN k 16:Nat):Int) (0:Int)<|Hq 7 ((kidsN k 16:Nat):Int) (1:Int)<|Hl 2 m 16 32 (σ a n c)<|Hb 1 ((n:Int)==(0:Int)) true (Ee.2 (by rw[z,BV]at r;omega)) ?_;replace d:=d.go g.below;have V:=d.size;have U:Ok (B-1) (k L):=by rcases hO L with h|⟨_,_,h⟩;exact absurd h s;exact h
  refine Hx 9 (og f205 11 2) (ψ q (0+L*1)) (λ_=>ol_indexK (kd:= .i64) 248 _ _ q 0 L 16 1 69 rfl (by kernel_rfl) (by kernel_rfl) o (by omega) υ248 (by kernel_rfl))<|Hx 0 (og f205 11 3) (.iface TL Z) (λ_=>AY 69 _ ⟨q,0+L*1,none⟩ _ _ rfl (by kernel_rfl) (by rw[A6,BE,Aj _ _ _ _ _ _ m,EQ _ _ _ o,J]) υ69 rfl)<|Hw 1 (η (IntKind.u8.wrap (L:Int))) (η (L:Int)) (Ao (Value.int .u8) (wrap8 o))<|M6 0 #[η (L:Int)] 5 1 ?_;intro N G t _;have aa:=d.size;have T:Sk K N (ζ G 0) 1 1 [(L:Int)]:=N9 (by omega) t (λb H=>I b (by have:=V;omega));replace d:=d.go t.below;replace e:=e.go t.below;obtain⟨ad,W,Q,ab,O,P⟩:=(Qx (k L) U (J▸e L o) T (by simp) (by omega) (λb H=>I b (Au d.size H)));refine Hm 0 (og f205 11 7) Q (#[W]++#[σ (ζ G 0) 1 1]) (λ_=>O _ _ _ _ _ _ _ rfl (by kernel_rfl) (by kernel_rfl)) (R:=TRs K (N) (und [(L:Int)] (k L))) ?_ ?_
  ·exact P
  rintro vR u8⟨Y,S⟩;replace d:=d.go S;exact Hr 6 vR ⟨_,rfl,(by rw[l];exact Y),d⟩
 ·skip
  replace f:=f.go g.below;have r:=f.len;refine Hz 14 ((kidsN k 16:Nat):Int) (0:Int)<|Hq 7 ((kidsN k 16:Nat):Int) (1:Int)<|Hl 2 m 16 32 (σ a n c)<|Hb 1 ((n:Int)==(0:Int)) false (Bo.2 (by have:=BH.2 z;omega))<|Hx 10 (og f205 12 0) (γ (brc vs (σ a n c))) (λ_=>BW 250 _ _ _ _ _ _ rfl (by kernel_rfl) m υ250 rfl (by kernel_rfl)) ?_;replace d:=d.go g.below;replace e:=e.go g.below;exact Hr 5 (.iface 250 (γ (brc vs (σ a n c)))) ⟨_,rfl,(by rw[l];exact⟨vs,_,_,_,rfl,e,f,y⟩),d⟩
 ·skip
  replace f:=f.go g.below;have r:=f.len;refine Hz 14 ((kidsN k 16:Nat):Int) (0:Int)<|Hz 7 ((kidsN k 16:Nat):Int) (1:Int)<|Hx 15 (og f205 12 0) (γ (brc vs (σ a n c))) (λ_=>BW 250 _ _ _ _ _ _ rfl (by kernel_rfl) m υ250 rfl (by kernel_rfl)) ?_;replace d:=d.go g.below;replace e:=e.go g.below;exact Hr 5 (.iface 250 (γ (brc vs (σ a n c)))) ⟨_,rfl,(by rw[l];exact⟨vs,_,_,_,rfl,e,f,y⟩),d⟩
end
end Go.Proofs.YtkdlocloepbmcaaGreat
