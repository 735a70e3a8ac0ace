/- Trees without a key. -/
import Derived.Test.YtkdlocloepbmcaaGreatG02
set_option linter.unusedVariables false
set_option linter.unusedSimpArgs false
set_option maxRecDepth 100000
set_option maxHeartbeats 4000000
open Go.Proofs.Tryz Go.RowKit
namespace Go.Proofs.YtkdlocloepbmcaaGreat
section
open Tr
variable {K K1 K0 : Nat → Prop} {w w' : World} {a aq ax : Option Addr} {n c nq cq B g cx : Nat} {p x q y k : List Int} {vs : Nat → Value}
theorem NC{a':Ω}{n' c':Nat}:
 κ 198 #[γ #[σ a n c,σ a' n' c'],σ aq nq cq] w λu w'=>TRs K w (del (leaf p x) q) u w':=by
 have b:=Bl.refl w;refine Ck func198 5<|Hn 2 (#[σ a n c,σ a' n' c']) 102 ?_;intro w1 f d e;replace b:=b.go d.below;exact Hr 9 (ν) ⟨_,rfl,rfl,b⟩
theorem NF{t:Tr}{Tu:TypeId}{xu:Δ}(j:Sk K w a n c p)(l:TA K w t (.iface Tu xu))(I:Ok B t)(X:DS t)(g:Sk K w aq nq cq q)(s:∀b,w.heap.size<=b->K b)(S:Nb q)(ad:p.length<=64)(af:B<=64)(D:q.take p.length=p)(F:Tr.get t (q.drop p.length)≠[])(L:Ok B (del t (q.drop p.length))):
 κ 214 #[γ #[σ a n c, .iface Tu xu],σ aq nq cq] w λu w'=>TRs K w (del (ext p t) q) u w':=by
 have e:=Bl.refl w;have V:=j.len;have lq:=g.len;have aa:p.length<=q.length:=by have:=Ao List.length D;rw[Ap]at this;omega
 refine Ck func214 18<|Hn 2 (#[σ a n c, .iface Tu xu]) 255 ?_;intro w1 U i d;refine Fq 4 (λv=>Rw U v (#[σ a n c, .iface Tu xu]) 255) (d.drew) ?_;replace d:=d.drew;refine Dl [0] 1 (λv f=>f) 1 69 (.iface Tu xu) d<|Dl [2,3] 4 (λv f=>f) 0 32 (σ a n c) d ?_;replace g:=(g.go i.below).drew;obtain⟨x,y,r,O,M⟩:=g.cutFrom n (by have:=g.len;omega);refine Dx [5] 6 (og f214 1 6) (σ x y r) (λv f=>(λ_=>O _ _ _ _ _ _ rfl (by kernel_rfl) (by kernel_rfl) rfl)) d<|Dx [] 7 (og f214 1 7) (.iface Tu xu) (λv f=>(λ_=>by kernel_rfl)) d<|Dl [8,10] 11 (λv f=>f) 0 32 (σ a n c) d<|Dz [9] ?_;replace e:=(e.go i.below).drew;replace l:=(l.go i.below).drew;obtain⟨ab,J,N,Y,A,C⟩:=(X I (by omega) (S.drop _) F l (show Sk K (w1.drew) _ _ _ (q.drop p.length)from V▸M) (λb m=>s b (Au e.size m)));refine Ym 9 (og f214 1 9) N (#[J]++#[σ x y r]) (λ_=>A _ _ _ _ _ _ _ rfl (by kernel_rfl) (by kernel_rfl)) (R:=TRs K (w1.drew) (del t (q.drop p.length))) ?_ (λu w' h=>d.go h.2) ?_ yn
 ·exact C
 rintro vD H⟨P,k⟩;refine Dz [12] ?_;replace j:=((j.go i.below).drew).go k;replace e:=e.go k;obtain⟨ae,G,Q,Z,z,E⟩:=(Qx _ L P j (by omega) (by omega) (λb m=>s b (Au e.size m)));replace d:=d.go k;refine Ym 12 (og f214 1 12) Q (#[G]++#[σ a n c]) (λ_=>z _ _ _ _ _ _ _ rfl (by kernel_rfl) (by kernel_rfl)) (R:=TRs K (H) (und p (del t (q.drop p.length)))) ?_ (λu w' h=>d.go h.2) ?_ yn
 ·exact E
 rintro W ac⟨T,o⟩;replace d:=d.go o;refine Dq [13] d ?_;replace e:=e.go o;exact Hr 2 W ⟨_,rfl,T,e⟩
theorem NG{k:Nat->Tr}(d:TK K w k vs)(E:Sk K w a n c y)(A:n<=256)(z:∀b,w.heap.size<=b->K b)(v:B<=64)(m:Sk K w aq nq cq q)(D:nq=0)(s:∀j,k j=no∨(j<16/\1<=B/\Ok (B-1) (k j))):
 κ 207 #[γ (brc vs (σ a n c)),σ aq nq cq] w λu w'=>TRs K w (del (br k y) q) u w':=by
 have f:=Bl.refl w;refine Ck func207 27<|Hn 2 (brc vs (σ a n c)) 250 ?_;intro w1 i h g;have C:=h.hg;refine Hq 8 (nq:Int) (0:Int)<|Ha 5 (og f207 2 1) i 16 (ε) (λ_=>ol_setC 32 _ _ i 16 _ 250 _ g rfl (by kernel_rfl) (by kernel_rfl) (by show 16<17;omega) rfl rfl (by kernel_rfl)) ?_;intro o l;replace d:=d.go h.below;have p:Bs w1 o i:=Bs.of g (d.noint _ _ _) l;replace g:Rw i o (brc vs (ε)) 250:=g.set l (rfl);refine Hx 4 (og f207 5 0) (γ (brc vs (ε))) (λ_=>BW 250 _ _ _ _ _ _ rfl (by kernel_rfl) g υ250 rfl (by kernel_rfl)) ?_;replace f:=(f.go h.below).set l (by omega);replace d:=d.bs p;refine Hc 0 (R:=TRs K (o) (nrm k [])) ((normal_any d (Sk.nil K _) (by omega) s v (λb x=>z b (Au f.size x)))) ?_;rintro vN F⟨t,r⟩;replace m:=((m.go h.below).bs p).go r;replace f:=f.go r;exact Hr 4 vN ⟨_,rfl,(by have e:q=[]:=Aw (by have:=m.len;omega);subst e;exact t),f⟩
theorem Mo{k:Nat->Tr}(o:TK K w k vs)(G:Sk K w a n c y)(aa:n<=256)(L:∀b,w.heap.size<=b->K b)(ad:B<=64){g l i:Nat}{r:τ}(x:i<16)(t:Sk K w (ζ g l) nq cq ((i:Int)::r))(aj:0<nq)(I:w.cell? ⟨g,l+0*1,none⟩=some (η (i:Int)))(hF:DS (k i))(Z:Ok (B-1) (k i))(S:Tr.get (k i) r≠[])(ac:Nb r){T0:TypeId}{v0:Δ}(e0:vs i= .iface T0 v0)(C:TA K w (k i) (.iface T0 v0))(Y:∀j,upd k i (del (k i) r) j=no∨(j<16/\1<=B/\Ok (B-1) (upd k i (del (k i) r) j))):
 κ 207 #[γ (brc vs (σ a n c)),σ (ζ g l) nq cq] w λu w'=>TRs K w (nrm (upd k i (del (k i) r)) y) u w':=by
 have d:=Bl.refl w;refine Ck func207 27<|Hn 2 (brc vs (σ a n c)) 250 ?_;intro w1 f m e;have ai:=m.hg;refine Hz 8 (nq:Int) (0:Int)<|Hx 6 (og f207 3 1) (ψ g (l+0*1)) (λ_=>AW 32 _ _ g l 0 nq cq 1 5 rfl (by kernel_rfl) (by kernel_rfl) (by omega) υ32 (by kernel_rfl)) ?_;replace d:=d.go m.below;refine Hx 0 (og f207 3 2) (η (i:Int)) (λ_=>AY 5 _ ⟨g,l+0*1,none⟩ _ _ rfl (by kernel_rfl) ((d.cell (p:=⟨g,l+0*1,none⟩) (Al I)).trans I) υ5 rfl)<|Fq 3 (λ_=>True) (trivial)<|Dx [0,1,2] 3 (og f207 4 3) (ψ f (0+i*1)) (λv H _=>ol_indexK (kd:= .u8) 248 _ _ f 0 i 16 1 69 rfl (by kernel_rfl) (by kernel_rfl) x (by omega) υ248 (by kernel_rfl)) trivial ?_;replace t:=(t.go m.below).drew;obtain⟨M,N,J,X,W⟩:=t.cutFrom 1 (by have:=t.len;omega);refine Dx [5] 6 (og f207 4 6) (σ M N J) (λv H=>(λ_=>X _ _ _ _ _ _ rfl (by kernel_rfl) (by kernel_rfl) rfl)) trivial<|Dy [10] [4] trivial ?_;replace e:=e.drew;refine Yx 4 (og f207 4 4) (.iface T0 v0) (λ_=>AY 69 _ ⟨f,0+i*1,none⟩ _ _ rfl (by kernel_rfl) (by rw[A6,BE,Aj _ _ _ _ _ _ e,EQ _ _ _ x,e0]) υ69 rfl) trivial ?_ yn;refine Dx [] 7 (og f207 4 7) (.iface T0 v0) (λv H=>(λ_=>by kernel_rfl)) trivial<|Dy [8] [9] trivial ?_;replace C:=(C.go m.below).drew;replace d:=d.drew;obtain⟨ah,U,V,ae,O,P⟩:=(hF Z (by omega) ac S C W (λb E=>L b (Au d.size E)));refine Ym 9 (og f207 4 9) V (#[U]++#[σ M N J]) (λ_=>O _ _ _ _ _ _ _ rfl (by kernel_rfl) (by kernel_rfl)) (R:=TRs K (w1.drew) (del (k i) r)) ?_ (λu w' h=>trivial) ?_ yn
 ·exact P
 rintro F T⟨q,s⟩;refine Dx [] 11 (og f207 4 11) (ψ f (0+i*1)) (λv H _=>ol_indexK (kd:= .u8) 248 _ _ f 0 i 16 1 69 rfl (by kernel_rfl) (by kernel_rfl) x (by omega) υ248 (by kernel_rfl)) trivial<|Dz [12] ?_;replace e:=e.go s;refine Ya 12 (og f207 4 12) f (0+i*1) F (λ_=>ol_setC 69 _ _ f (0+i*1) _ 250 _ e rfl (by kernel_rfl) (by kernel_rfl) (by show 0+i*1<17;omega) q.cells q.one (by kernel_rfl)) (λw' h=>trivial) ?_ yn;intro D z;replace o:=((o.go m.below).drew).go s;have A:Bs T D f:=Bs.of e (o.noint _ _ _) z;replace e:Rw f D (brc (updv vs i F) (σ a n c)) 250:=e.set z (by rw[A6,BE];exact FT _ _ _ _ x);refine Do<|Hx 3 (og f207 5 0) (γ (brc (updv vs i F) (σ a n c))) (λ_=>BW 250 _ _ _ _ _ _ rfl (by kernel_rfl) e υ250 rfl (by kernel_rfl)) ?_;replace G:=(((G.go m.below).drew).go s).bs A;replace d:=(d.go s).set z (by omega);replace o:=o.bs A;replace q:=q.bs A;refine Hc 0 (R:=TRs K (D) (nrm (upd k i (del (k i) r)) y)) ((normal_any (o.put q) G aa Y ad (λb E=>L b (Au d.size E)))) ?_;rintro vN af⟨ab,Q⟩;replace d:=d.go Q;exact Hr 4 vN ⟨_,rfl,ab,d⟩
theorem Xao(t:Tr):DS t:=by
 induction t with
 |no=>intro K w v a n c q B d;exact d.elim
 |leaf p x0=>
  intro K w v a n c q B d C f b z l A;obtain⟨L,M,c1,S,T,c2,rfl,s,x,E⟩:=z;exact⟨_,_,_,rfl,N6 _,NC⟩
 |ext p t G=>
  intro K w v a n c q B d C f b z l A;obtain⟨L,M,c1,u,rfl,s,x⟩:=z;obtain⟨V,U,R,F,J⟩:=d;obtain⟨Tu,xu,rfl⟩:=x.iface (λe=>by rw[e]at F;simp[isBr]at F);simp only[Tr.get]at b;have H:q.take p.length=p:=by
   by_cases h:q.take p.length=p
   ·exact h
   ·rw[Ae h]at b;exact absurd rfl b
  rw[Ai H]at b;exact⟨_,_,_,rfl,N7 _,NF s x J G l A f (by omega) (by omega) H b ((N3 t _ _ J (f.drop _) b).2 F)⟩
 |br k y G=>
  intro K w v a n c q B d C f b z l A;obtain⟨vs,L,M,c1,rfl,s,x,E⟩:=z;refine⟨_,_,_,rfl,N8 _,?_⟩;cases q with
  |nil=>exact NG s x E A C l l.len.symm d.1
  |cons i r=>
   obtain⟨g,o,rfl,Q,P⟩:=l.head;have O:=f.head;obtain⟨j,rfl⟩:=Df O.1;have b:Tr.get (k j) r≠[]:=b;rcases d.1 j with h|⟨D,N,h⟩
   ·rw[h]at b;exact absurd rfl b
   ·obtain⟨T0,v0,I⟩:=(s j D).iface h.ne;refine Mo s x E A C D l P Q (G j) h b f.tail I (I▸s j D) ?_;intro m;show upd k j (del (k j) r) m=no∨(m<16/\1<=B/\Ok (B-1) (upd k j (del (k j) r) m));by_cases e:m=j
    ·rw[e,Cs];rcases(N3 (k j) _ r h f.tail b).1 with h|h
     ·exact .inl h
     ·exact .inr ⟨D,N,h⟩
    ·rw[Cc k _ e];exact d.1 m
structure Tri(K:Θ)(w:Γ)(g:Nat)(t:Tr):Prop where
 ex:∃v,Rw g w #[v] 71/\TA K w t v
 ok:t=no∨Ok 64 t
theorem Tri.go{t:Tr}(h:Tri K w g t)(a:Λ w w'):Tri K w' g t:=by
 obtain⟨⟨v,b,d⟩,c⟩:=h;exact⟨⟨v,b.go a,d.go a⟩,c⟩
theorem Tri.drew{t:Tr}(h:Tri K w g t):Tri K w.drew g t:=h.go (Ac _ _).drew
theorem Tri.noint{t:Tr}(h:Tri K w g t)(o:Nat)(kd:IntKind)(z:Int):w.cell? ⟨g,o,none⟩≠some (.int kd z):=by
 obtain⟨⟨v,a,b⟩,c⟩:=h;rw[Aj _ _ _ _ _ _ a];cases o with
 |zero=>intro e;cases e;exact b.noint _ _ rfl
 |succ o=>simp
theorem Ia{t:Tr}{v:Δ}(h:TA K w t v):NoInt #[v]:=by
 intro j u a kd z;cases j with
 |zero=>cases a;exact h.noint kd z
 |succ j=>simp at a
theorem Sk.touch{K':Θ}{t:Tr}{bs:τ}(h:Sk K w a n c bs)(p:Touch g w w')(l:Tri K' w g t):Sk K w' a n c bs:=by
 refine⟨⟨?_,h.ag.nil,h.ag.l,h.ag.b⟩,h.k⟩;rcases h.ag.i with d|⟨gb,off,d,k,q,m,o,f⟩
 ·exact .inl d
 ·refine .inr ⟨gb,off,d,k,q,m,o,λj b=>?_⟩;have i:gb≠g:=λe=>by
   subst e;exact l.noint _ _ _ (f j b)
  rw[<-f j b];exact Av (p.block gb (Al (f j b)) i)
theorem Le{base:Nat}{bs:τ}(h:Ni.Cut w base a n bs)(d:∀b,base<=b->K b):Sk K w a n n bs:=
 ⟨h.ag,λx c i=>by obtain⟨g,off,cur,e,f,_⟩:=h.own i;rw[e]at c;cases c;exact d _ f⟩
theorem Lf(h:∀x∈k,0<=x/\x<256):Nb (Ni.nib k):=λi a=>by have:=Ni.nib_bd k h i a;omega
theorem TA.len:∀{t:Tr}{v:Δ},TA K w t v->∀q,Nb q->(Tr.get t q).length<=256:=by
 intro t
 induction t with
 |no=>intro v h q _;simp[Tr.get]
 |leaf p x=>
  rintro v⟨_,_,_,_,n',_,_,_,a,d⟩ q _;simp only[Tr.get];split
  ·rw[a.len];exact d
  ·simp
 |ext p t c=>
  rintro v⟨_,_,_,u,_,_,a⟩ q b;simp only[Tr.get];split
  ·exact c a _ (b.drop _)
  ·simp
 |br k x c=>
  rintro v⟨vs,_,_,_,_,e,a,d⟩ q b;cases q with
  |nil=>simp only[Tr.get];rw[a.len];exact d
  |cons i r=>
   have:=b.head;simp only[Tr.get];exact c _ (e i.toNat (by omega)) _ b.tail
theorem Yo(l:τ):decide (((l.length:Nat):Int)>(0:Int))=decide (l≠[]):=by
 cases l with
 |nil=>rfl
 |cons i r=>simp
theorem Ic(d:n<=32):
 κ 28 #[σ a n c] w λu w'=>(λu w'=>u=β true/\Bl w w') u w':=by
 have b:=Bl.refl w;refine Ck func28 6<|Ht 9 ((n:Int)<=(32:Int)) ?_;exact Hr 4 (β true) ⟨_,rfl,rfl,b⟩
theorem NH(d:32<n):
 κ 28 #[σ a n c] w λu w'=>(λu w'=>u=β false/\Bl w w') u w':=by
 have b:=Bl.refl w;refine Ck func28 6<|Hf 9 ((n:Int)<=(32:Int)) ?_;exact Hr 4 (β false) ⟨_,rfl,rfl,b⟩
theorem Tn(d:0<n)(e:n<=256):
 κ 31 #[σ a n c] w λu w'=>(λu w'=>u=β true/\Bl w w') u w':=by
 have b:=Bl.refl w;refine Ck func31 11<|Ht 9 ((n:Int)>(0:Int))<|Ht 3 ((n:Int)<=(256:Int)) ?_;exact Hr 5 (β true) ⟨_,rfl,rfl,b⟩
theorem To(d:n=0):
 κ 31 #[σ a n c] w λu w'=>(λu w'=>u=β false/\Bl w w') u w':=by
 have b:=Bl.refl w;refine Ck func31 11<|Hf 9 ((n:Int)>(0:Int)) ?_;exact Hr 9 (β false) ⟨_,rfl,rfl,b⟩
theorem Tp(d:256<n):
 κ 31 #[σ a n c] w λu w'=>(λu w'=>u=β false/\Bl w w') u w':=by
 have b:=Bl.refl w;refine Ck func31 11<|Ht 9 ((n:Int)>(0:Int))<|Hf 3 ((n:Int)<=(256:Int)) ?_;exact Hr 5 (β false) ⟨_,rfl,rfl,b⟩
theorem new_any:
 κ 15 #[] w λu w'=>(λu w'=>(∃g,u=π g/\w.heap.size<=g/\Tri K w' g no)/\Bl w w') u w':=by
 have a:=Bl.refl w;refine Ck func15 3<|Hn 8 #[ν] 71 ?_;intro w1 d b c;replace a:=a.go b.below;exact Hr 4 (π d) ⟨_,rfl,⟨_,rfl,(by rw[b.hg];exact Ab _),⟨⟨_,c,rfl⟩, .inl rfl⟩⟩,a⟩
theorem Xap{v:Δ}{t:Tr}(d:Rw g w #[v] 71)(i:TA K w t v)(J:t=no∨Ok 64 t)(j:Sk K1 w a n c k)(V:n<=32)(P:∀b,w.heap.size<=b->K b):
 κ 41 #[π g,σ a n c] w λu w'=>(λu w'=>(∃l m c2 b,u=θ #[σ l m c2,β b,ι 0]/\b=decide (Tr.get t (Ni.nib k)≠[])/\Sk (λb=>w.heap.size<=b) w' l m c2 (Tr.get t (Ni.nib k)))/\Bl w w') u w':=by
 have f:=Bl.refl w;have y:Nb (Ni.nib k):=Lf j.ag.b;have X:(Ni.nib k).length=2*n:=by rw[Ni.nib_len,j.len]
 have I:t=no∨∃B,Ok B t/\FS t:=by
  rcases J with h|h
  ·exact .inl h
  ·exact .inr ⟨_,h,Qu t⟩
 refine Ck func41 23<|Hc 11 (args:=#[σ a n c]) (R:=λu w'=>u=β true/\Bl (w) w') ((Ic V)) ?_;rintro _ A⟨rfl,o⟩;replace d:=d.go o;refine Fq 7 (λw=>Rw g w #[v] 71) (d.drew) ?_;replace d:=d.drew;refine Dx [0] 1 (og f41 3 1) (π g) (λv D=>(λ_=>by kernel_rfl)) d<|Dl [2] 3 (λv D=>D) 0 69 (v) d<|Dy [4] [5] d ?_;replace j:=(j.go o).drew;refine Yc 5 (R:=λu w'=>(∃a',u=σ a' (2*n) (2*n)/\Ni.Cut w' (A.drew).heap.size a' (2*n) (Ni.nib k))/\Bl (A.drew) w') (((Ni.of_any _ _ _ k _ j.ag (by omega)).mono (λe w' h=>by obtain⟨⟨a',W,Q⟩,M⟩:=h;exact⟨_,W,⟨a',rfl,Q⟩,M⟩))) (λu w' h=>d.go h.2) ?_ yn;rintro _ C⟨⟨aq,rfl,E⟩,q⟩;replace f:=(f.go o).drew;have F:=f.size;have O:Sk K C aq (2*n) (2*n) (Ni.nib k):=Le E (λb r=>P b (Au F r));refine Dz [6] ?_;replace i:=((i.go o).drew).go q;replace d:=d.go q;refine Yc 6 (R:=RS K (C) (Tr.get t (Ni.nib k))) ((IV I i O y)) (λu w' h=>d.go h.2) ?_ yn;rintro _ z⟨⟨Z,s,c3,rfl,x⟩,p⟩;replace d:=d.go p;refine Dq [7] d ?_;have T:=x.len;replace i:=i.go p;have l4:=i.len _ y;replace f:=(f.go q).go p;have H:=f.size;refine Hc 4 (R:=λu w'=>∃l m c2,u=σ l m c2/\Sk (λb=>(z).heap.size<=b) w' l m c2 (Tr.get t (Ni.nib k))/\Bl (z) w') ((EY x (by omega))) ?_;rintro _ Y⟨S,N,U,rfl,G,L⟩;refine Hp 2 (β (decide ((s:Int)>(0:Int))))<|Hp 1 (β (decide ((s:Int)>(0:Int)))) ?_;replace f:=f.go L;exact Hr 4 (θ #[σ S N U,β (decide ((s:Int)>(0:Int))),ι 0]) ⟨_,rfl,⟨_,_,_,_,rfl,(by rw[<-T];exact Yo _),G.mono (λb r=>Au H r)⟩,f⟩
theorem Yp(f:Sk K w a n c k)(e:32<n):
 κ 41 #[π g,σ a n c] w λu w'=>(λu w'=>u=θ #[ε,β false,ι 70]/\Bl w w') u w':=by
 have b:=Bl.refl w;refine Ck func41 23<|Hc 11 (args:=#[σ a n c]) (R:=λu w'=>u=β false/\Bl (w) w') ((NH e)) ?_;rintro _ h⟨rfl,d⟩;replace b:=b.go d;exact Hr 13 (θ #[ε,β false,ι 70]) ⟨_,rfl,rfl,b⟩
theorem Yq{v:Δ}{t:Tr}(i:Rw g w #[v] 71)(j:TA K w t v)(X:t=no∨Ok 64 t)(s:Sk K1 w a n c k)(hn:n<=32){nx:Nat}(f:Sk K0 w ax nx cx x)(ai:nx<=256)(h0:0<nx)(y:∀b,w.heap.size<=b->K b):
 κ 12 #[π g,σ a n c,σ ax nx cx] w λu w'=>(λu w'=>u=ι 0/\Tri K w' g (put t (Ni.nib k) x)/\Touch g w w') u w':=by
 have d:=Bl.refl w;have E:Nb (Ni.nib k):=Lf s.ag.b;have am:(Ni.nib k).length=2*n:=by rw[Ni.nib_len,s.len]
 have ar:g<w.heap.size:=lt_of_get i;have ae:t=no∨∃B,Ok B t/\B<=64/\(Ni.nib k).length<=B/\WS t:=by
  rcases X with h|h
  ·exact .inl h
  ·exact .inr ⟨64,h,Ab _,by omega,Xan t⟩
 refine Ck func12 27<|Hc 10 (args:=#[σ a n c]) (R:=λu w'=>u=β true/\Bl (w) w') ((Ic hn)) ?_;rintro _ u1⟨rfl,o⟩;refine Hc 8 (args:=#[σ ax nx cx]) (R:=λu w'=>u=β true/\Bl (u1) w') ((Tn h0 ai)) ?_;rintro _ Y⟨rfl,p⟩;refine Fq 9 (λ_=>True) (trivial)<|Dx [0,1] 2 (og f12 5 2) (π g) (λv hv=>(λ_=>by kernel_rfl)) trivial<|Dy [3,5,7] [4,6] trivial ?_;replace i:=((i.go o).go p).drew;refine Yx 4 (og f12 5 4) v (λ_=>AY 69 _ ⟨g,0,none⟩ _ _ rfl (by kernel_rfl) (by rw[Aj _ _ _ _ _ _ i];rfl) υ69 rfl) trivial ?_ ?_
 ·skip
  refine Dz [6] ?_;replace s:=((s.go o).go p).drew;refine Yc 6 (R:=λu w'=>(∃a',u=σ a' (2*n) (2*n)/\Ni.Cut w' (Y.drew).heap.size a' (2*n) (Ni.nib k))/\Bl (Y.drew) w') (((Ni.of_any _ _ _ k _ s.ag (by omega)).mono (λe w' h=>by obtain⟨⟨a',F,h1⟩,h2⟩:=h;exact⟨_,F,⟨a',rfl,h1⟩,h2⟩))) (λu w' h=>trivial) ?_ yn;rintro _ u5⟨⟨aq,rfl,ab⟩,W⟩;replace d:=((d.go o).go p).drew;have ad:=d.size;have r:Sk K u5 aq (2*n) (2*n) (Ni.nib k):=Le ab (λb l=>y b (Au ad l));refine Dz [8] ?_;replace f:=(((f.go o).go p).drew).go W;refine Yc 8 (R:=λu w'=>∃A C c2,u=σ A C c2/\Sk (λb=>(u5).heap.size<=b) w' A C c2 x/\Bl (u5) w') ((EY f (by omega))) (λu w' h=>trivial) ?_ yn;rintro _ u7⟨Q,P,S,rfl,m,N⟩;replace d:=d.go W;have J:=d.size;replace m:Sk K u7 Q P S x:=m.mono (λb l=>y b (Au J l));refine Dz [9] ?_;replace j:=((((j.go o).go p).drew).go W).go N;replace d:=d.go N;replace f:=f.go N;replace r:=r.go N;refine Yc 9 (R:=TRs K (u7) (put t (Ni.nib k) x)) ((FV ae j r E m (by have F:=m.len;have e2:=f.len;omega) (λb l=>y b (Au d.size l)))) (λu w' h=>trivial) ?_ yn;rintro z u9⟨q,V⟩;refine Dx [] 10 (og f12 5 10) (π g) (λv hv=>(λ_=>by kernel_rfl)) trivial<|Dy [11] [12] trivial ?_;replace i:=((i.go W).go N).go V;refine Ya 12 (og f12 5 12) g 0 z (λ_=>ol_setC 69 _ _ g 0 _ 71 _ i rfl (by kernel_rfl) (by kernel_rfl) (by show 0<1;omega) q.cells q.one (by kernel_rfl)) (λw' h=>trivial) ?_ yn;intro aj Z;replace j:=j.go V;have L:=Bs.of i (Ia j) Z;replace d:=d.go V;have I:=(Touch.of_below (g:=g) d).trans Z.touch;replace f:=f.go V;have M:Tri K aj g (put t (Ni.nib k) x):=⟨⟨z,i.set Z rfl,q.bs L⟩, .inr (put_ok t 64 _ _ X E (by omega) (by intro e;have:=f.len;rw[e,BV]at this;omega))⟩;refine Do ?_;exact Hr 7 (ι 0) ⟨_,rfl,rfl,M,I⟩
 replace s:=((s.go o).go p).drew;refine Yc 6 (R:=λu w'=>(∃a',u=σ a' (2*n) (2*n)/\Ni.Cut w' (Y.drew).heap.size a' (2*n) (Ni.nib k))/\Bl (Y.drew) w') (((Ni.of_any _ _ _ k _ s.ag (by omega)).mono (λe w' h=>by obtain⟨⟨a',F,h1⟩,h2⟩:=h;exact⟨_,F,⟨a',rfl,h1⟩,h2⟩))) (λu w' h=>trivial) ?_ yn;rintro _ O⟨⟨aq,rfl,ab⟩,D⟩;replace d:=((d.go o).go p).drew;have ad:=d.size;have r:Sk K O aq (2*n) (2*n) (Ni.nib k):=Le ab (λb l=>y b (Au ad l));refine Dz [4,8] ?_;replace i:=i.go D;refine Yx 4 (og f12 5 4) v (λ_=>AY 69 _ ⟨g,0,none⟩ _ _ rfl (by kernel_rfl) (by rw[Aj _ _ _ _ _ _ i];rfl) υ69 rfl) trivial ?_ ?_
 ·skip
  refine Dz [8] ?_;replace f:=(((f.go o).go p).drew).go D;refine Yc 8 (R:=λu w'=>∃A C c2,u=σ A C c2/\Sk (λb=>(O).heap.size<=b) w' A C c2 x/\Bl (O) w') ((EY f (by omega))) (λu w' h=>trivial) ?_ yn;rintro _ ah⟨Q,P,S,rfl,m,G⟩;replace d:=d.go D;have J:=d.size;replace m:Sk K ah Q P S x:=m.mono (λb l=>y b (Au J l));refine Dz [9] ?_;replace j:=((((j.go o).go p).drew).go D).go G;replace d:=d.go G;replace f:=f.go G;replace r:=r.go G;refine Yc 9 (R:=TRs K (ah) (put t (Ni.nib k) x)) ((FV ae j r E m (by have F:=m.len;have e2:=f.len;omega) (λb l=>y b (Au d.size l)))) (λu w' h=>trivial) ?_ yn;rintro z ao⟨q,T⟩;refine Dx [] 10 (og f12 5 10) (π g) (λv hv=>(λ_=>by kernel_rfl)) trivial<|Dy [11] [12] trivial ?_;replace i:=(i.go G).go T;refine Ya 12 (og f12 5 12) g 0 z (λ_=>ol_setC 69 _ _ g 0 _ 71 _ i rfl (by kernel_rfl) (by kernel_rfl) (by show 0<1;omega) q.cells q.one (by kernel_rfl)) (λw' h=>trivial) ?_ yn;intro al ac;replace j:=j.go T;have L:=Bs.of i (Ia j) ac;replace d:=d.go T;have I:=(Touch.of_below (g:=g) d).trans ac.touch;replace f:=f.go T;have M:Tri K al g (put t (Ni.nib k) x):=⟨⟨z,i.set ac rfl,q.bs L⟩, .inr (put_ok t 64 _ _ X E (by omega) (by intro e;have:=f.len;rw[e,BV]at this;omega))⟩;refine Do ?_;exact Hr 7 (ι 0) ⟨_,rfl,rfl,M,I⟩
 replace f:=(((f.go o).go p).drew).go D;refine Yc 8 (R:=λu w'=>∃A C c2,u=σ A C c2/\Sk (λb=>(O).heap.size<=b) w' A C c2 x/\Bl (O) w') ((EY f (by omega))) (λu w' h=>trivial) ?_ yn;rintro _ af⟨Q,P,S,rfl,m,H⟩;replace d:=d.go D;have J:=d.size;replace m:Sk K af Q P S x:=m.mono (λb l=>y b (Au J l));refine Dz [4] ?_;replace i:=i.go H;refine Yx 4 (og f12 5 4) v (λ_=>AY 69 _ ⟨g,0,none⟩ _ _ rfl (by kernel_rfl) (by rw[Aj _ _ _ _ _ _ i];rfl) υ69 rfl) trivial ?_ yn;refine Dz [9] ?_;replace j:=((((j.go o).go p).drew).go D).go H;replace d:=d.go H;replace f:=f.go H;replace r:=r.go H;refine Yc 9 (R:=TRs K (af) (put t (Ni.nib k) x)) ((FV ae j r E m (by have F:=m.len;have e2:=f.len;omega) (λb l=>y b (Au d.size l)))) (λu w' h=>trivial) ?_ yn;rintro z ap⟨q,U⟩;refine Dx [] 10 (og f12 5 10) (π g) (λv hv=>(λ_=>by kernel_rfl)) trivial<|Dy [11] [12] trivial ?_;replace i:=i.go U;refine Ya 12 (og f12 5 12) g 0 z (λ_=>ol_setC 69 _ _ g 0 _ 71 _ i rfl (by kernel_rfl) (by kernel_rfl) (by show 0<1;omega) q.cells q.one (by kernel_rfl)) (λw' h=>trivial) ?_ yn;intro ak aa;replace j:=j.go U;have L:=Bs.of i (Ia j) aa;replace d:=d.go U;have I:=(Touch.of_below (g:=g) d).trans aa.touch;replace f:=f.go U;have M:Tri K ak g (put t (Ni.nib k) x):=⟨⟨z,i.set aa rfl,q.bs L⟩, .inr (put_ok t 64 _ _ X E (by omega) (by intro e;have:=f.len;rw[e,BV]at this;omega))⟩;refine Do ?_;exact Hr 7 (ι 0) ⟨_,rfl,rfl,M,I⟩
theorem Yr{nx:Nat}(j:Sk K w a n c k)(m:Sk K0 w ax nx cx x)(f:n<=32)(h:nx=0):
 κ 12 #[π g,σ a n c,σ ax nx cx] w λu w'=>(λu w'=>u=ι 71/\Bl w w') u w':=by
 have b:=Bl.refl w;refine Ck func12 27<|Hc 10 (args:=#[σ a n c]) (R:=λu w'=>u=β true/\Bl (w) w') ((Ic f)) ?_;rintro _ i⟨rfl,d⟩;refine Hc 8 (args:=#[σ ax nx cx]) (R:=λu w'=>u=β false/\Bl (i) w') ((To h)) ?_;rintro _ l⟨rfl,e⟩;replace b:=(b.go d).go e;exact Hr 13 (ι 71) ⟨_,rfl,rfl,b⟩
theorem Yt{nx:Nat}(j:Sk K w a n c k)(m:Sk K0 w ax nx cx x)(f:n<=32)(h:256<nx):
 κ 12 #[π g,σ a n c,σ ax nx cx] w λu w'=>(λu w'=>u=ι 71/\Bl w w') u w':=by
 have b:=Bl.refl w;refine Ck func12 27<|Hc 10 (args:=#[σ a n c]) (R:=λu w'=>u=β true/\Bl (w) w') ((Ic f)) ?_;rintro _ i⟨rfl,d⟩;refine Hc 8 (args:=#[σ ax nx cx]) (R:=λu w'=>u=β false/\Bl (i) w') ((Tp h)) ?_;rintro _ l⟨rfl,e⟩;replace b:=(b.go d).go e;exact Hr 13 (ι 71) ⟨_,rfl,rfl,b⟩
theorem Xaq{nx:Nat}(f:Sk K w a n c k)(h:Sk K0 w ax nx cx x)(e:32<n):
 κ 12 #[π g,σ a n c,σ ax nx cx] w λu w'=>(λu w'=>u=ι 70/\Bl w w') u w':=by
 have b:=Bl.refl w;refine Ck func12 27<|Hc 10 (args:=#[σ a n c]) (R:=λu w'=>u=β false/\Bl (w) w') ((NH e)) ?_;rintro _ i⟨rfl,d⟩;replace b:=b.go d;exact Hr 13 (ι 70) ⟨_,rfl,rfl,b⟩
theorem OI(f:Sk K w a n c k)(e:32<n):
 κ 11 #[π g,σ a n c] w λu w'=>(λu w'=>u=θ #[β false,ι 70]/\Bl w w') u w':=by
 have b:=Bl.refl w;refine Ck func11 29<|Hc 10 (args:=#[σ a n c]) (R:=λu w'=>u=β false/\Bl (w) w') ((NH e)) ?_;rintro _ h⟨rfl,d⟩;replace b:=b.go d;exact Hr 12 (θ #[β false,ι 70]) ⟨_,rfl,rfl,b⟩
theorem Kd{v:Δ}{t:Tr}(l:Rw g w #[v] 71)(m:TA K w t v)(z:t=no∨Ok 64 t)(f:Sk K1 w a n c k)(G:n<=32)(J:∀b,w.heap.size<=b->K b)(r:Tr.get t (Ni.nib k)=[]):
 κ 11 #[π g,σ a n c] w λu w'=>(λu w'=>u=θ #[β false,ι 0]/\Bl w w') u w':=by
 have d:=Bl.refl w;have C:Nb (Ni.nib k):=Lf f.ag.b;have M:(Ni.nib k).length=2*n:=by rw[Ni.nib_len,f.len]
 have y:t=no∨∃B,Ok B t/\FS t:=by
  rcases z with h|h
  ·exact .inl h
  ·exact .inr ⟨_,h,Qu t⟩
 refine Ck func11 29<|Hc 10 (args:=#[σ a n c]) (R:=λu w'=>u=β true/\Bl (w) w') ((Ic G)) ?_;rintro _ o⟨rfl,i⟩;replace f:=f.go i;refine Hc 9 (R:=λu w'=>(∃a',u=σ a' (2*n) (2*n)/\Ni.Cut w' (o).heap.size a' (2*n) (Ni.nib k))/\Bl (o) w') (((Ni.of_any _ _ _ k _ f.ag (by omega)).mono (λe w' h=>by obtain⟨⟨a',I,L⟩,D⟩:=h;exact⟨_,I,⟨a',rfl,L⟩,D⟩))) ?_;rintro _ p⟨⟨aq,rfl,q⟩,j⟩;replace d:=d.go i;have s:=d.size;have H:Sk K p aq (2*n) (2*n) (Ni.nib k):=Le q (λb E=>J b (Au s E));replace l:=(l.go i).go j;refine Hl 9 l 0 69 (v) ?_;replace m:=(m.go i).go j;refine Hc 1 (R:=RS K (p) (Tr.get t (Ni.nib k))) ((IV y m H C)) ?_;rintro _ O⟨⟨N,F,c3,rfl,x⟩,A⟩;refine Hb 1 ((F:Int)==(0:Int)) true (Ee.2 (by have:=x.len;rw[r,BV]at this;omega)) ?_;replace d:=(d.go j).go A;exact Hr 11 (θ #[β false,ι 0]) ⟨_,rfl,rfl,d⟩
theorem Ke{v:Δ}{t:Tr}(d:Rw g w #[v] 71)(f:TA K w t v)(C:t=no∨Ok 64 t)(l:Sk K1 w a n c k)(Z:n<=32)(D:∀b,w.heap.size<=b->K b)(j:Tr.get t (Ni.nib k)≠[]):
 κ 11 #[π g,σ a n c] w λu w'=>(λu w'=>u=θ #[β true,ι 0]/\Tri K w' g (del t (Ni.nib k))/\Touch g w w') u w':=by
 have i:=Bl.refl w;have y:Nb (Ni.nib k):=Lf l.ag.b;have ab:(Ni.nib k).length=2*n:=by rw[Ni.nib_len,l.len]
 have Q:t=no∨∃B,Ok B t/\FS t:=by
  rcases C with h|h
  ·exact .inl h
  ·exact .inr ⟨_,h,Qu t⟩
 have A:Ok 64 t:=by
  rcases C with h|h
  ·rw[h]at j;exact absurd rfl j
  ·exact h
 obtain⟨T0,v0,rfl⟩:=f.iface A.ne;refine Ck func11 29<|Hc 10 (args:=#[σ a n c]) (R:=λu w'=>u=β true/\Bl (w) w') ((Ic Z)) ?_;rintro _ F⟨rfl,o⟩;replace l:=l.go o;refine Hc 9 (R:=λu w'=>(∃a',u=σ a' (2*n) (2*n)/\Ni.Cut w' (F).heap.size a' (2*n) (Ni.nib k))/\Bl (F) w') (((Ni.of_any _ _ _ k _ l.ag (by omega)).mono (λe w' h=>by obtain⟨⟨a',e1,X⟩,V⟩:=h;exact⟨_,e1,⟨a',rfl,X⟩,V⟩))) ?_;rintro _ G⟨⟨aq,rfl,J⟩,s⟩;replace i:=i.go o;have L:=i.size;have p:Sk K G aq (2*n) (2*n) (Ni.nib k):=Le J (λb z=>D b (Au L z));replace d:=(d.go o).go s;refine Hl 9 d 0 69 (.iface T0 v0) ?_;replace f:=(f.go o).go s;refine Hc 1 (R:=RS K (G) (Tr.get t (Ni.nib k))) ((IV Q f p y)) ?_;rintro _ Y⟨⟨a3,W,c3,rfl,N⟩,m⟩;refine Hb 1 ((W:Int)==(0:Int)) false (Bo.2 (by have:=N.len;have:=BH.2 j;omega)) ?_;replace d:=d.go m;refine Hl 11 d 0 69 (.iface T0 v0) ?_;replace i:=(i.go s).go m;replace f:=f.go m;replace p:=p.go m;obtain⟨ac,O,T,aa,S,I⟩:=(Xao t A (by omega) y j f p (λb z=>D b (Au i.size z)));refine Hm 1 (og f11 6 6) T (#[O]++#[σ aq (2*n) (2*n)]) (λ_=>S _ _ _ _ _ _ _ rfl (by kernel_rfl) (by kernel_rfl)) (R:=TRs K (Y) (del t (Ni.nib k))) ?_ ?_
 ·exact I
 rintro E u7⟨x,r⟩;replace d:=d.go r;refine Ha 2 (og f11 6 9) g 0 E (λ_=>ol_setC 69 _ _ g 0 _ 71 _ d rfl (by kernel_rfl) (by kernel_rfl) (by show 0<1;omega) x.cells x.one (by kernel_rfl)) ?_;intro P q;replace f:=f.go r;have M:=Bs.of d (Ia f) q;replace i:=i.go r;have H:=(Touch.of_below (g:=g) i).trans q.touch;have U:Tri K P g (del t (Ni.nib k)):=⟨⟨E,d.set q rfl,x.bs M⟩,(N3 t 64 _ A y j).1⟩;exact Hr 9 (θ #[β true,ι 0]) ⟨_,rfl,rfl,U,H⟩
end
section
variable {n d w k W j : Nat} {α : Type} {b : List Int} {deep : Bool}
inductive T where
 |mk (l:Bool) (bs:τ) (its:List T)
instance:Inhabited T:=⟨.mk false [] []⟩
def T.l:T->Bool| .mk l _ _=>l
def T.bs:T->τ| .mk _ bs _=>bs
def T.its:T->List T| .mk _ _ its=>its
def nb(n:Nat):Nat:=if h:n=0 then 0 else 1+nb (n/256)
decreasing_by exact Ei (Nat.pos_of_ne_zero h) (by decide)
def be(n:Nat):τ:=if h:n=0 then[]else be (n/256)++[((n%256:Nat):Int)]
decreasing_by exact Ei (Nat.pos_of_ne_zero h) (by decide)
theorem Ie:nb 0=0:=by rw[nb];rfl
theorem GI(h:0<n):nb n=1+nb (n/256):=by rw[nb,dif_neg (by omega)]
theorem FW:be 0=[]:=by rw[be];rfl
theorem FM(h:0<n):be n=be (n/256)++[((n%256:Nat):Int)]:=by rw[be,dif_neg (by omega)]
theorem JK(n:Nat):(be n).length=nb n:=by
 induction n using Nat.strongRecOn with
 |_ n a=>
  by_cases h:n=0
  ·subst h;rw[FW,Ie];rfl
  ·rw[FM (by omega),GI (by omega),Af,a _ (Ei (by omega) (by decide))];simp[Nat.add_comm]
theorem NI(a:0<n)(h:n<256):nb n=1:=by rw[GI a,show n/256=0 from by omega,Ie]
theorem NJ(a:256<=n)(h:n<65536):nb n=2:=by rw[GI (by omega),NI (by omega) (by omega)]
theorem IW(a:65536<=n)(h:n<16777216):nb n=3:=by rw[GI (by omega),NJ (by omega) (by omega)]
theorem ZR(h:n<4294967296):nb n<=4:=by
 by_cases b:n=0
 ·subst b;rw[Ie];omega
 ·by_cases a:n<256
  ·rw[NI (by omega) a];omega
  ·by_cases d:n<65536
   ·rw[NJ (by omega) d];omega
   ·by_cases c:n<16777216
    ·rw[IW (by omega) c];omega
    ·rw[GI (by omega),IW (by omega) (by omega)];omega
theorem Gz(h:n<16777216):nb n<=3:=by
 by_cases c:n=0
 ·subst c;rw[Ie];omega
 ·by_cases a:n<256
  ·rw[NI (by omega) a];omega
  ·by_cases b:n<65536
   ·rw[NJ (by omega) b];omega
   ·rw[IW (by omega) h];omega
theorem ZS(h:0<n):1<=nb n:=by rw[GI h];omega
theorem Vu(a:0<n)(h:n<256):be n=[(n:Int)]:=by
 rw[FM a,show n/256=0 from by omega,FW,show n%256=n from by omega];rfl
theorem Vv(a:256<=n)(h:n<65536):be n=[((n/256:Nat):Int),((n%256:Nat):Int)]:=by
 rw[FM (by omega),Vu (by omega) (by omega)];rfl
theorem Vw(a:65536<=n)(h:n<16777216):be n=[((n/65536:Nat):Int),((n/256%256:Nat):Int),((n%256:Nat):Int)]:=by
 rw[FM (by omega),Vv (by omega) (by omega),Nat.div_div_eq_div_mul];rfl
def hd(base n:Nat):τ:=if n<=55 then[((base+n:Nat):Int)]else((base+55+nb n:Nat):Int)::be n
theorem hd_len(base n:Nat):(hd base n).length=1+(if 55<n then nb n else 0):=by
 unfold hd;by_cases h:n<=55
 ·rw[Ai h,Ae (by omega)];rfl
 ·rw[Ae h,Ai (by omega),AE,JK];omega
def bare(l:Bool)(bs:τ):Bool:=!l&&(decide (bs.length=1)&&decide (bs.headD 0<128))
def baseOf(l:Bool):Nat:=if l then 192 else 128
mutual
def enc:T->τ
 | .mk l bs its=>if bare l (bs++encs its)then bs++encs its else hd (baseOf l) (bs++encs its).length++(bs++encs its)
def encs:List T->τ
 |[]=>[]
 |t::r=>enc t++encs r
end
def bodyOf(t:T):τ:=t.bs++encs t.its
theorem Ea(l:Bool)(bs:τ)(its:List T):enc (.mk l bs its)=if bare l (bs++encs its)then bs++encs its else hd (baseOf l) (bs++encs its).length++(bs++encs its):=by rw[enc]
theorem Ct:encs []=[]:=by rw[encs]
theorem C9(t:T)(r:List T):encs (t::r)=enc t++encs r:=by rw[encs]
theorem EK:∀a b:List T,encs (a++b)=encs a++encs b
 |[],b=>by rw[Ct];rfl
 |t::r,b=>by rw[BS,C9,C9,EK r b,AX]
mutual
def form:T->Bool
 | .mk l bs its=>(if l then bs.isEmpty else its.isEmpty)&&forms its
def forms:List T->Bool
 |[]=>true
 |t::r=>form t&&forms r
end
theorem FX(l:Bool)(bs:τ)(its:List T):form (.mk l bs its)=((if l then bs.isEmpty else its.isEmpty)&&forms its):=by rw[form]
theorem E3:forms []=true:=by rw[forms]
theorem I8(t:T)(r:List T):forms (t::r)=(form t&&forms r):=by rw[forms]
mutual
def byt:T->Prop
 | .mk l bs its=>(∀x∈bs,0<=x/\x<256)/\byts its
def byts:List T->Prop
 |[]=>True
 |t::r=>byt t/\byts r
end
theorem GJ(l:Bool)(bs:τ)(its:List T):byt (.mk l bs its)↔((∀x∈bs,0<=x/\x<256)/\byts its):=by rw[byt]
theorem M8(t:T)(r:List T):byts (t::r)↔(byt t/\byts r):=by rw[byts]
def wt(l:Bool)(bs:τ)(d:Nat):Nat:=if l&&d==0 then 0 else max bs.length 1
def wrongForm(l:Bool)(bs:τ)(its:List T):Bool:=(l&&decide (0<bs.length))||(!l&&decide (0<its.length))
mutual
def wk:T->Nat->Nat->Nat×Nat
 | .mk l bs its,d,w=>
  if l&&decide (8<=d)then(w,21)
  else if wrongForm l bs its then(w,23)
  else if 16777215<w+wt l bs d then(w+wt l bs d,20)
  else wks its (d+1) (w+wt l bs d)
def wks:List T->Nat->Nat->Nat×Nat
 |[],d,w=>(w,0)
 |t::r,d,w=>if(wk t d w).2=0 then wks r d (wk t d w).1 else wk t d w
end
theorem IX(l:Bool)(bs:τ)(its:List T)(d w:Nat):wk (.mk l bs its) d w=if l&&decide (8<=d)then(w,21)else if wrongForm l bs its then(w,23)else if 16777215<w+wt l bs d then(w+wt l bs d,20)else wks its (d+1) (w+wt l bs d):=by rw[wk]
theorem Er(d w:Nat):wks [] d w=(w,0):=by rw[wks]
theorem Fi(t:T)(r:List T)(d w:Nat):wks (t::r) d w=if(wk t d w).2=0 then wks r d (wk t d w).1 else wk t d w:=by rw[wks]
mutual
def sz:T->Nat
 | .mk l bs its=>if bare l bs then bs.length+szs its else 1+(bs.length+szs its)+(if 55<bs.length+szs its then nb (bs.length+szs its)else 0)
def szs:List T->Nat
 |[]=>0
 |t::r=>sz t+szs r
end
def szOf(l:Bool)(bs:τ)(n:Nat):Nat:=if bare l bs then n else 1+n+(if 55<n then nb n else 0)
def szb(t:T):Nat:=t.bs.length+szs t.its
theorem RN(l:Bool)(bs:τ)(its:List T):sz (.mk l bs its)=szOf l bs (bs.length+szs its):=by rw[sz];rfl
theorem Fu:szs []=0:=by rw[szs]
theorem Gh(t:T)(r:List T):szs (t::r)=sz t+szs r:=by rw[szs]
theorem Lg:∀a b:List T,szs (a++b)=szs a+szs b
 |[],b=>by rw[Fu];simp
 |t::r,b=>by rw[BS,Gh,Gh,Lg r b];omega
theorem T.ind{p:T->Prop}(h:∀l bs its,(∀t∈its,p t)->p (.mk l bs its)):∀t,p t:=by
 intro t;refine T.rec (motive_1:=p) (motive_2:=λits=>∀t∈its,p t) (λl bs its c=>h l bs its c) (λt a=>by cases a) (λt r a d=>?_) t;intro x b;rcases Ay.1 b with rfl|b
 ·exact a
 ·exact d x b
theorem Ej{bs:τ}{its:List T}(h:form (.mk false bs its)=true):its=[]:=by
 rw[FX]at h;cases its with
 |nil=>rfl
 |cons t r=>simp at h
theorem EL{bs:τ}{its:List T}(h:form (.mk true bs its)=true):bs=[]/\forms its=true:=by
 rw[FX]at h;cases bs with
 |nil=>simpa using h
 |cons t r=>simp at h
theorem CN:∀{its:List T},forms its=true->∀t∈its,form t=true
 |[],_,t,a=>by cases a
 |x::r,h,t,a=>by
  rw[I8,BZ]at h;rcases Ay.1 a with rfl|a
  ·exact h.1
  ·exact CN h.2 t a
theorem Vy(bs:τ)(l:Bool)(its:List T)(h:form (.mk l bs its)=true):bare l (bs++encs its)=bare l bs:=by
 cases l with
 |true=>simp[bare]
 |false=>rw[Ej h,Ct,A7]
theorem RO{its:List T}(h:∀t∈its,sz t=(enc t).length):szs its=(encs its).length:=by
 induction its with
 |nil=>rw[Fu,Ct];rfl
 |cons t r a=>
  rw[Gh,C9,Af,h t (C0 ..),a λx b=>h x (Az _ b)]
theorem Vz:∀t,form t=true->sz t=(enc t).length:=by
 refine T.ind λl bs its e h=>?_;have d:forms its=true:=by
  cases l with
  |true=>exact(EL h).2
  |false=>rw[Ej h,E3]
 have c:=RO (its:=its) λt b=>e t b (CN d t b);rw[RN,Ea,Vy _ _ _ h,szOf];by_cases a:bare l bs=true
 ·rw[Ai a,Ai a,c,Af]
 ·rw[Ae a,Ae a,Af,hd_len,Af,c];omega
theorem IY{t:T}(h:form t=true):szb t=(bodyOf t).length:=by
 cases t with
 |mk l bs its=>
  have a:forms its=true:=by
   cases l with
   |true=>exact(EL h).2
   |false=>rw[Ej h,E3]
  show bs.length+szs its=(bs++encs its).length;rw[Af,RO λt b=>Vz t (CN a t b)]
theorem NK:∀{its:List T}{d w:Nat},(wks its d w).2=0->∀t∈its,∃w',(wk t d w').2=0
 |[],_,_,_,t,a=>by cases a
 |x::r,d,w,h,t,a=>by
  rw[Fi]at h;by_cases b:(wk x d w).2=0
  ·rw[Ai b]at h;rcases Ay.1 a with rfl|a
   ·exact⟨w,b⟩
   ·exact NK h t a
  ·rw[Ae b]at h;exact absurd h b
theorem OJ{its:List T}(h:∀t∈its,form t=true):forms its=true:=by
 induction its with
 |nil=>exact E3
 |cons t r a=>rw[I8,h t (C0 ..),a λx b=>h x (Az _ b)];rfl
theorem OK{l:Bool}{bs:τ}{its:List T}(h:(wk (.mk l bs its) d w).2=0):(l=true->d<8)/\wrongForm l bs its=false/\w+wt l bs d<=16777215/\wk (.mk l bs its) d w=wks its (d+1) (w+wt l bs d):=by
 rw[IX]at h⊢;by_cases a:(l&&decide (8<=d))=true
 ·rw[Ai a]at h;cases h
 ·rw[Ae a]at h⊢;by_cases b:wrongForm l bs its=true
  ·rw[Ai b]at h;cases h
  ·rw[Ae b]at h⊢;by_cases c:16777215<w+wt l bs d
   ·rw[Ai c]at h;cases h
   ·rw[Ae c]at h⊢;refine⟨λe=>?_,by simpa using b,by omega,rfl⟩;subst e;simp at a;omega
theorem EM{l:Bool}{bs:τ}{its:List T}(h:wrongForm l bs its=false):(if l then bs.isEmpty else its.isEmpty)=true:=by
 cases l with
 |true=>cases bs<;>simp_all [wrongForm]
 |false=>cases its<;>simp_all [wrongForm]
theorem IZ:∀t,∀d w,(wk t d w).2=0->form t=true:=by
 refine T.ind λl bs its c d w h=>?_;obtain⟨_,e,_,f⟩:=OK h;rw[f]at h;rw[FX,EM e,Du];exact OJ λt a=>let⟨w',b⟩:=NK h t a;c t a _ _ b
theorem V0{its:List T}(b:∀t∈its,∀d w,0<d->(wk t d w).2=0->w<=(wk t d w).1/\(wk t d w).1<=16777215+w/\sz t<=10*((wk t d w).1-w)/\(w<=16777215->(wk t d w).1<=16777215)):
 ∀d w,0<d->(wks its d w).2=0->w<=(wks its d w).1/\szs its<=10*((wks its d w).1-w)/\(w<=16777215->(wks its d w).1<=16777215):=by
 induction its with
 |nil=>intro d w _ _;rw[Er,Fu];exact⟨Ab _,by simp,λh=>h⟩
 |cons t r c=>
  intro d w hd h;rw[Fi]at h⊢;by_cases a:(wk t d w).2=0
  ·rw[Ai a]at h⊢;obtain⟨k,_,l,f⟩:=b t (C0 ..) d w hd a;obtain⟨j,m,g⟩:=c (λx i=>b x (Az _ i)) d _ hd h;rw[Gh];exact⟨by omega,by omega,λe=>g (f e)⟩
  ·rw[Ae a]at h;exact absurd h a
theorem Xar{l:Bool}{bs:τ}(h:0<d):wt l bs d=max bs.length 1:=by
 unfold wt;rw[Ae];simp;omega
theorem RP(l:Bool)(bs:τ)(n:Nat)(h:n<4294967296):szOf l bs n<=n+5:=by
 unfold szOf;split
 ·omega
 ·split
  ·have:=ZR h;omega
  ·omega
theorem ZT:∀t,∀d w,0<d->(wk t d w).2=0->w<=(wk t d w).1/\(wk t d w).1<=16777215+w/\sz t<=10*((wk t d w).1-w)/\(w<=16777215->(wk t d w).1<=16777215):=by
 refine T.ind λl bs its g d w hd h=>?_;obtain⟨_,j,a,k⟩:=OK h;rw[k]at h⊢;obtain⟨f,m,e⟩:=V0 g (d+1) _ (by omega) h;have c:=e a;rw[Xar hd]at*;have b:=EM j;rw[RN];cases l with
 |true=>
  have:bs=[]:=by simpa using b
  subst this;have n:(([]:τ).length+szs its)=szs its:=by simp
  rw[n];have i:max ([]:τ).length 1=1:=by simp
  rw[i]at f m e c a⊢;have:=RP true [] (szs its) (by omega);exact⟨by omega,by omega,by omega,λ_=>c⟩
 |false=>
  have:its=[]:=by simpa using b
  subst this;rw[Fu];have:=RP false bs bs.length (by omega);rw[Er]at*;exact⟨by show w<=w+_;omega,by show w+_<=_;omega,by show szOf false bs bs.length<=10*(w+max bs.length 1-w);omega,λ_=>a⟩
theorem I9:∀(a b:List T)(d w:Nat),wks (a++b) d w=if(wks a d w).2=0 then wks b d (wks a d w).1 else wks a d w
 |[],b,d,w=>by rw[Er];rfl
 |t::r,b,d,w=>by
  rw[BS,Fi,Fi];by_cases h:(wk t d w).2=0
  ·rw[Ai h,Ai h,I9 r b]
  ·rw[Ae h,Ae h,Ae h]
theorem DM{l:List α}{t:α}(h:l[k]?=some t):l.take (k+1)=l.take k++[t]:=by
 rw[BP,h];rfl
theorem M9{l:List α}{t:α}(h:l[k]?=some t):l=l.take k++t::l.drop (k+1):=by
 obtain⟨a,e⟩:=Ar.1 h;rw[<-e];simp
theorem Lh{its:List T}{t:T}(h:its[k]?=some t)(b:wks (its.take k) d w=(W,0))(a:(wk t d W).2=0):wks (its.take (k+1)) d w=((wk t d W).1,0):=by
 rw[DM h,I9,b,Ai rfl,Fi,Ai a,Er]
theorem Li{its:List T}{t:T}(h:its[k]?=some t)(b:wks (its.take k) d w=(W,0))(a:(wk t d W).2≠0):wks its d w=wk t d W:=by
 rw[M9 h,I9,b,Ai rfl,Fi,Ae a]
theorem V1{its:List T}{t:T}(h:its[k]?=some t):szs (its.take (k+1))=szs (its.take k)+sz t:=by
 rw[DM h,Lg,Gh,Fu];rfl
theorem JL{its:List T}(hd:0<d)(e:w<=16777215)(h:wks its d w=(W,0)):w<=W/\W<=16777215/\szs its<=10*(W-w):=by
 obtain⟨a,c,b⟩:=V0 (its:=its) (λt _=>ZT t) d w hd (by rw[h]);rw[h]at a c b;exact⟨a,b e,c⟩
theorem Lj{t:T}(hd:0<d)(b:w<=16777215)(h:(wk t d w).2=0):w<=(wk t d w).1/\(wk t d w).1<=16777215/\sz t<=10*((wk t d w).1-w):=by
 obtain⟨a,_,e,c⟩:=ZT t d w hd h;exact⟨a,c b,e⟩
theorem KE(l:Bool)(bs:τ)(n:Nat):n<=szOf l bs n:=by unfold szOf;split<;>omega
theorem V3(t:T):sz t=szOf t.l t.bs (szb t):=by
 cases t with
 |mk l bs its=>exact RN l bs its
def val(b:τ):Nat:=b.foldl (λn x=>n*256+x.toNat) 0
theorem Ja(b:τ)(x:Int):val (b++[x])=val b*256+x.toNat:=by simp[val]
theorem V5:∀(k:Nat)(b:τ),b.length=k->(∀x∈b,0<=x/\x<256)->val b<256^k
 |0,b,h,_=>by rw[Aw h];decide
 |k+1,b,h,a=>by
  obtain⟨i,x,rfl⟩:∃i x,b=i++[x]:=⟨b.dropLast,b.getLast (by intro c;rw[c]at h;simp at h),(List.dropLast_concat_getLast _).symm⟩;rw[Ja];have f:=V5 k i (by simp at h;omega) (λy d=>a y (DJ _ d));have e:=a x (by simp);rw[Nat.pow_succ];omega
theorem DE(c:∀x∈b,0<=x/\x<256)(d:j<=b.length)(e:j<=3):val (b.take j)<256^j/\256^j<=16777216:=by
 refine⟨V5 j _ (by rw[Ap];omega) (λx a=>c x (Bb a)),?_⟩;have:j=0∨j=1∨j=2∨j=3:=by omega
 rcases this with rfl|rfl|rfl|rfl<;>decide
theorem Lk(a:j<b.length):val (b.take (j+1))=val (b.take j)*256+(b.getD j 0).toNat:=by
 rw[DM (Ad a),Ja];simp[Ad a]
def lenIn(b:τ)(c:Nat):Nat×Nat:=
 if 3<c then(0,23)else if b.length<c then(0,22)else if b.headD 0=0∨val (b.take c)<=55 then(0,23)else(val (b.take c),0)
inductive HR where
 |bad (e:Nat)
 |ok (f t:Nat)
def nOf(c:Int):Nat:=(c-(if 192<=c then 192 else 128)).toNat
def hdr(deep:Bool)(b:τ):HR:=
 match b with
 |[]=> .bad 22
 |c::r=>
  if 192<=c/\deep=true then .bad 21
  else if c<128 then .ok 0 1
  else if 55<nOf c then
   if(lenIn r (nOf c-55)).2≠0 then .bad (lenIn r (nOf c-55)).2
   else if b.length-(1+(nOf c-55))<(lenIn r (nOf c-55)).1 then .bad 22
   else .ok (1+(nOf c-55)) (1+(nOf c-55)+(lenIn r (nOf c-55)).1)
  else if b.length-1<nOf c then .bad 22 else .ok 1 (1+nOf c)
inductive R where
 |bad (e:Nat)
 |ok (t:T) (n:Nat)
inductive RL where
 |bad (e:Nat)
 |ok (ts:List T)
def rdAll(f:τ->R):Nat->τ->RL
 |_,[]=> .ok []
 |0,_::_=> .bad 0
 |n+1,x::b=>match f (x::b)with
  | .bad e=> .bad e
  | .ok t m=>match rdAll f n ((x::b).drop m)with
   | .bad e=> .bad e
   | .ok ts=> .ok (t::ts)
def rd1(g:τ->R)(deep:Bool)(b:τ):R:=
 match hdr deep b with
 | .bad e=> .bad e
 | .ok f t=>
  if b.headD 0<192 then(if f=1/\t=2/\b.getD 1 0<128 then .bad 23 else .ok (.mk false ((b.take t).drop f) []) t)
  else match rdAll g ((b.take t).drop f).length ((b.take t).drop f)with
   | .bad e=> .bad e
   | .ok ts=> .ok (.mk true [] ts) t
def rd:Nat->τ->R
 |0=>rd1 (λ_=> .bad 21) true
 |k+1=>rd1 (rd k) false
theorem GK{c:Nat}(h:(lenIn b c).2=0):c<=3/\c<=b.length/\b.headD 0≠0/\55<val (b.take c)/\(lenIn b c).1=val (b.take c):=by
 unfold lenIn at*;by_cases d:3<c
 ·rw[Ai d]at h;cases h
 ·rw[Ae d]at h⊢;by_cases e:b.length<c
  ·rw[Ai e]at h;cases h
  ·rw[Ae e]at h⊢;by_cases a:b.headD 0=0∨val (b.take c)<=55
   ·rw[Ai a]at h;cases h
   ·rw[Ae a];exact⟨by omega,by omega,λh=>a (.inl h),by omega,rfl⟩
theorem Ll{f t:Nat}(h:hdr deep b= .ok f t):f<=t/\t<=b.length/\1<=t/\0<b.length:=by
 unfold hdr at h;split at h
 ·cases h
 ·rename_i c r;split at h
  ·cases h
  ·split at h
   ·cases h;simp
   ·split at h
    ·split at h
     ·cases h
     ·rename_i d a;have:=GK (Decidable.not_not.1 a);split at h
      ·cases h
      ·cases h;simp only[AE]at*;omega
    ·split at h
     ·cases h
     ·cases h;simp only[AE]at*;omega
theorem V6{g:τ->R}{t:T}(h:rd1 g deep b= .ok t n):1<=n/\n<=b.length:=by
 unfold rd1 at h;split at h
 ·cases h
 ·rename_i f t' a;have:=Ll a;split at h
  ·split at h
   ·cases h
   ·cases h;omega
  ·split at h
   ·cases h
   ·cases h;omega
theorem OL{t:T}(h:rd k b= .ok t n):1<=n/\n<=b.length:=by
 cases k with
 |zero=>exact V6 h
 |succ k=>exact V6 h
theorem EZ(f:τ->R)(n:Nat):rdAll f n []= .ok []:=by cases n<;>rfl
theorem FA{f:τ->R}{e:Nat}(a:b≠[])(h:f b= .bad e):rdAll f (n+1) b= .bad e:=by
 cases b with
 |nil=>exact absurd rfl a
 |cons x b=>rw[rdAll,h]
theorem Gi{f:τ->R}{m:Nat}{t:T}(a:b≠[])(h:f b= .ok t m):rdAll f (n+1) b=match rdAll f n (b.drop m)with| .bad e=> .bad e| .ok ts=> .ok (t::ts):=by
 cases b with
 |nil=>exact absurd rfl a
 |cons x b=>rw[rdAll,h]
theorem Lm{f:τ->R}(a:∀b t m,f b= .ok t m->1<=m):∀n m b,b.length<=n->b.length<=m->rdAll f n b=rdAll f m b
 |_,_,[],_,_=>by rw[EZ,EZ]
 |n+1,m+1,x::b,g,d=>by
  cases h:f (x::b)with
  |bad e=>rw[FA (by simp) h,FA (by simp) h]
  |ok t k=>
   have c:=a _ _ _ h;rw[Gi (by simp) h,Gi (by simp) h,Lm a n m ((x::b).drop k) (by simp at*;omega) (by simp at*;omega)]
end
section
variable {w : World} {a : Option Addr} {k g : Nat}
structure V where
 l:Bool
 ba:Ω
 bn:Nat
 bc:Nat
 ia:Ω
 m:Nat
 ic:Nat
def V.v(x:V):Δ:=γ #[β x.l,σ x.ba x.bn x.bc,σ x.ia x.m x.ic]
mutual
def Lies(w:Γ):T->V->Prop
 | .mk l bs its,x=>x.l=l/\Ag w x.ba x.bn x.bc bs/\x.m=its.length/\x.m<=x.ic/\x.ic<=maxLen/\(x.bn<=140737488351232/\x.m<=140737488351232)/\LiesAll w its x.ia 0
def LiesAll(w:Γ):List T->Ω->Θ
 |[],_,_=>True
 |t::r,a,k=>(∃g off y,a=some ⟨g,off,none⟩/\w.cell? ⟨g,off+k*3,none⟩=some (β y.l)/\w.cell? ⟨g,off+k*3+1,none⟩=some (σ y.ba y.bn y.bc)/\w.cell? ⟨g,off+k*3+2,none⟩=some (σ y.ia y.m y.ic)/\Lies w t y)/\LiesAll w r a (k+1)
end
theorem lies_eq{l:Bool}{bs:τ}{its:List T}{x:V}:Lies w (.mk l bs its) x↔(x.l=l/\Ag w x.ba x.bn x.bc bs/\x.m=its.length/\x.m<=x.ic/\x.ic<=maxLen/\(x.bn<=140737488351232/\x.m<=140737488351232)/\LiesAll w its x.ia 0):=by rw[Lies]
theorem liesAll_cons{t:T}{r:List T}:LiesAll w (t::r) a k↔((∃g off y,a=some ⟨g,off,none⟩/\w.cell? ⟨g,off+k*3,none⟩=some (β y.l)/\w.cell? ⟨g,off+k*3+1,none⟩=some (σ y.ba y.bn y.bc)/\w.cell? ⟨g,off+k*3+2,none⟩=some (σ y.ia y.m y.ic)/\Lies w t y)/\LiesAll w r a (k+1)):=by rw[LiesAll]
theorem Ds:LiesAll w [] a k:=by rw[LiesAll];trivial
structure At(w:Γ)(a:Ω)(k:Nat)(t:T)(g off:Nat)(y:V):Prop where
 ha:a=some ⟨g,off,none⟩
 c0:w.cell? ⟨g,off+k*3,none⟩=some (β y.l)
 c1:w.cell? ⟨g,off+k*3+1,none⟩=some (σ y.ba y.bn y.bc)
 c2:w.cell? ⟨g,off+k*3+2,none⟩=some (σ y.ia y.m y.ic)
 li:Lies w t y
theorem Eb{w:Γ}{a:Ω}:∀{its:List T}{k:Nat},LiesAll w its a k->∀i,∀t,its[i]?=some t->∃g off y,At w a (k+i) t g off y
 |[],k,_,i,t,h=>by simp at h
 |t::r,k,d,i,u,h=>by
  obtain⟨⟨g,off,y,l,e,n,f,m⟩,j⟩:=liesAll_cons.1 d;cases i with
  |zero=>
   simp at h;subst h;exact⟨g,off,y,l,e,n,f,m⟩
  |succ i=>
   simp at h;obtain⟨g',c,o,b⟩:=Eb j i u h;rw[show k+1+i=k+(i+1)from by omega]at b;exact⟨g',c,o,b⟩
theorem Cl{w':Γ}(i:Λ w w'):∀t,∀x,Lies w t x->Lies w' t x:=by
 refine T.ind λl bs its m x h=>?_;obtain⟨e,b,d,c,f,n,j⟩:=lies_eq.1 h;refine lies_eq.2 ⟨e,b.at i,d,c,f,n,?_⟩;clear e b d c f n h;generalize x.ia=a at j;generalize 0=k at j
 induction its generalizing k with
 |nil=>exact Ds
 |cons t r o=>
  obtain⟨⟨g,off,y,e,b,d,c,f⟩,q⟩:=liesAll_cons.1 j;refine liesAll_cons.2 ⟨⟨g,off,y,e,?_,?_,?_,m t (C0 ..) y f⟩,o (λu s=>m u (Az _ s)) _ q⟩
  ·exact(i.cell (p:=⟨g,off+k*3,none⟩) (Al b)).trans b
  ·exact(i.cell (p:=⟨g,off+k*3+1,none⟩) (Al d)).trans d
  ·exact(i.cell (p:=⟨g,off+k*3+2,none⟩) (Al c)).trans c
theorem V7:∀t,∀x,Lies w t x->byt t:=by
 refine T.ind λl bs its e x h=>?_;obtain⟨i,c,j,f,d,o,b⟩:=lies_eq.1 h;refine(GJ l bs its).2 ⟨c.b,?_⟩;clear i c j f d o h;generalize x.ia=a at b;generalize 0=k at b
 induction its generalizing k with
 |nil=>rw[byts];trivial
 |cons t r m=>
  obtain⟨⟨g,off,y,i,c,j,f,d⟩,n⟩:=liesAll_cons.1 b;exact(M8 t r).2 ⟨e t (C0 ..) y d,m (λu p=>e u (Az _ p)) _ n⟩
theorem ag_head{n c:Nat}{bs:τ}(h:Ag w a n c bs)(l:0<n):∃g off,a=some ⟨g,off,none⟩/\n<=c/\c<=maxLen/\∀j,j<n->w.cell? ⟨g,off+j,none⟩=some (η (bs.getD j 0)):=by
 rcases h.i with⟨m,_⟩|⟨g,off,d,o,k,f,b,e⟩
 ·omega
 ·exact⟨g,off,d,f,b,λj i=>e j (by omega)⟩
theorem cell_alloc{off:Nat}{v:Δ}(h:w.cell? ⟨g,off,none⟩=some v):∀o,(w.alloc o).cell? ⟨g,off,none⟩=some v:=λo=>(Av (w:=w) (Ax w _ _ (Al h))).trans h
theorem OM(l:Bool)(i:Ω)(a f:Nat)(n:Ω)(m k:Nat)(bs:τ)(w:Γ)(h:Ag w i a f bs):
 Calls prog 118 #[γ #[β l,σ i a f,σ n m k]] w λe w'=>e=ω (β (bare l bs))/\Λ w w':=by
 cases l with
 |true=>
  go_enter func118,ntmps118;go_wp2_with fail;go_ret;exact⟨by simp[bare],(Ac _ _).alloc (Ab _) _⟩
 |false=>
  by_cases d:a=1
  ·subst d;obtain⟨g,off,rfl,p,j,b⟩:=ag_head h (by omega);have b:=b 0 (by omega);have c:=h.l
   match bs,c with
   |[x],_=>
    simp at b;have r:=h.b x (by simp);have j:=cell_alloc b;clear h;go_enter func118,ntmps118;go_wp2_with fail;go_ret;exact⟨by simp[bare],(Ac _ _).alloc (Ab _) _⟩
  ·have c:=h.l;have q:(a==1)=false:=(by simp[d]);have o:((a:Int)==1)=false:=(by simp;omega);clear h;go_enter func118,ntmps118;go_wp2_with fail;go_ret;exact⟨by simp[bare,c,d],(Ac _ _).alloc (Ab _) _⟩
theorem Fv(l:Bool)(h:Ω)(a i:Nat)(c:Ω)(m g:Nat)(bs:τ)(d:Nat)(w:Γ)(b:bs.length=a)(f:a<=maxLen):
 Calls prog 151 #[γ #[β l,σ h a i,σ c m g],ι d] w λe w'=>e=ω (ι (wt l bs d:Nat))/\Λ w w':=by
 unfold maxLen at f;cases l with
 |true=>
  by_cases hd:d=0
  ·subst hd;go_enter func151,ntmps151;go_wp2_with fail;go_ret;exact⟨by simp[wt],(Ac _ _).alloc (Ab _) _⟩
  ·have j:((d:Int)==0)=false:=(by simp;omega);go_enter func151,ntmps151;go_wp2_with fail
   all_goals
    go_ret;refine⟨?_,(Ac _ _).alloc (Ab _) _⟩;simp[wt,hd,b];omega
 |false=>
  go_enter func151,ntmps151;go_wp2_with fail
  all_goals
   go_ret;refine⟨?_,(Ac _ _).alloc (Ab _) _⟩;simp[wt,b];omega
theorem Ln(l:Bool)(g:Ω)(f i:Nat)(k:Ω)(m o:Nat)(bs:τ)(n:Nat)(w:Γ)(h:Ag w g f i bs)(B:n<1000000000):
 Calls prog 117 #[γ #[β l,σ g f i,σ k m o],ι n] w λe w'=>e=ω (ι (szOf l bs n:Nat))/\Λ w w':=by
 have a:Hid (szOf l bs n=if bare l bs then n else 1+n+(if 55<n then nb n else 0)):=rfl;generalize szOf l bs n=r at a⊢;go_enter func117,ntmps117;go_wp2_with fail;refine(OM l g f i k m o bs _ (h.at ((Ac _ _).alloc (Ab _) _))).mono ?_;rintro e w1⟨rfl,t⟩;have j:=((Ac w.heap.size w).alloc (Ab _) (.cells #[β l,σ g f i,σ k m o] 108)).trans (t.mono (by simp));clear t h;by_cases d:bare l bs=true
 ·have HR:=a.out;rw[Ai d]at HR;rw[d];subst HR;go_wp2_with fail;go_ret;exact⟨rfl,j⟩
 ·have HR:=a.out;have x:bare l bs=false:=by simpa using d
  rw[Ae d]at HR;rw[x];by_cases p:55<n
  ·rw[Ai p]at HR;have y:(55:Int)<n:=(by omega);have v:=Aa HR;clear HR a;go_wp2_with fail
   go_loop [5,6] (λs q=>∃c b:Nat,s=ι c/\q=ι b/\c+nb b=r/\b<1000000000/\r<1000000010) (λs q=>(intOf q).toNat)
   case atStart=>exact⟨1+n,n,by simp,rfl,by rw[v.out],B,by rw[v.out];have:=ZR (n:=n) (by omega);omega⟩
   case round=>
    obtain⟨c,b,rfl,rfl,u,E,z⟩:=hrel;have a:=Aa u;clear u;by_cases A:b=0
    ·subst A;go_wp2_with fail;go_ret;have:=a.out;rw[Ie]at this;exact⟨by rw[<-this];rfl,j⟩
    ·have D:(0:Int)<b:=(by omega);have C:c<1000000010:=(by have:=a.out;omega);go_wp2_with fail
     go_round
     case rel=>exact⟨c+1,b/256,by simp,by simp,by have:=a.out;rw[GI (by omega)]at this;omega,by omega,z⟩
     case measure=>simp[intOf];omega
  ·rw[Ae p]at HR;have y:¬(55:Int)<n:=(by omega);subst HR;go_wp2_with fail;go_ret;exact⟨by simp,j⟩
def BodyPost(t:T)(d W g:Nat)(w:Γ):Ending->Γ->Prop:=λe w'=>
 Touch g w w'/\(((wk t d W).2=0/\e=ω (θ #[ι (szb t),ι 0])/\w'.heap[g]?=some (.cells #[ι ((wk t d W).1:Nat)] 185))∨((wk t d W).2≠0/\e=ω (θ #[ι 0,ι ((wk t d W).2:Nat)])))
theorem Jb{w1:Γ}{W a d:Nat}{l:Bool}{bs:τ}{X:Ξ}(f:w.heap[g]?=some (.cells #[ι W] 185))(k:wt l bs d=a)(m:W+a<=150000000000000)
 (c:Below (w.alloc (.cells X 108)).drew.heap.size (w.alloc (.cells X 108)).drew w1):
 Touch g w (w1.setCell ⟨g,0,none⟩ (ι (IntKind.i64.wrap ((W:Int)+(wt l bs d:Nat)))))/\(w1.setCell ⟨g,0,none⟩ (ι (IntKind.i64.wrap ((W:Int)+(wt l bs d:Nat))))).heap[g]?=some (.cells #[ι (W+a:Nat)] 185)/\
  (w1.setCell ⟨g,0,none⟩ (ι (IntKind.i64.wrap ((W:Int)+(wt l bs d:Nat))))).heap[w.heap.size]?=some (.cells X 108):=by
 subst k;have j:=lt_of_get f;have e:IntKind.i64.wrap ((W:Int)+(wt l bs d:Nat))=((W+wt l bs d:Nat):Int):=by rw[IntKind.wrap_i64];omega
 have b:Λ w w1:=(((Ac w.heap.size w).alloc (Ab _) (.cells X 108)).drew).trans (c.mono (by simp));have i:w1.heap[g]?=some (.cells #[ι W] 185):=(b.block g j).trans f;have h:w1.heap[w.heap.size]?=some (.cells X 108):=(c.block _ (by simp)).trans (Ak w _);rw[e];refine⟨(Touch.of_below b).trans (Touch.setCell _ _ _ _),AU w1 g 0 _ _ _ i,(AA _ _ _ _ (show w.heap.size≠g from by omega)).trans h⟩
theorem V8(l:Bool)(bs:τ)(its:List T)(x:V)(d W g:Nat)(w0 w:Γ)(Q:Lies w0 (.mk l bs its) x)(ak:Λ w0 w)(hg:w0.heap.size<=g)(u:w.heap[g]?=some (.cells #[ι W] 185))(hW:W<=16777215)(hd:d<=8)(L:(l=true/\d=8)∨wrongForm l bs its=true∨16777215<W+wt l bs d):
 Calls prog 116 #[π g,γ #[β x.l,σ x.ba x.bn x.bc,σ x.ia x.m x.ic],ι d] w (BodyPost (.mk l bs its) d W g w):=by
 obtain⟨l',r,i,s,t,m,j⟩:=x;obtain⟨U,q,F,h4,X,⟨h7,h8⟩,G⟩:=lies_eq.1 Q;simp only at U q F h4 X G h7 h8⊢;subst U;have ai:=lt_of_get u;have D:i<=maxLen:=by unfold maxLen;omega
 have am:j<=2^63-1:=X;have hm:m<=2^63-1:=by omega
 have aj:i<=2^63-1:=D;have c0:∀o,(w.alloc o).cell? ⟨g,0,none⟩=some (ι W):=cell_alloc (by rw[Aj _ _ _ _ _ _ u];rfl);have R:∀o,(w.alloc o).frozen? ⟨g,0,none⟩=false:=λo=>AN _ _ _ _ _ ((Ax w o _ ai).trans u);have c:=IX l' bs its d W;by_cases n:l'=true/\d=8
 ·obtain⟨rfl,rfl⟩:=n;have e1:wk (.mk true bs its) 8 W=(W,21):=by rw[c];rfl
  go_enter func116,ntmps116;go_wp2_with fail;go_ret2;exact⟨Touch.of_below ((Ac _ _).alloc (Ab _) _), .inr (by rw[e1];exact⟨E7 _,rfl⟩)⟩
 have M:(l'&&decide (8<=d))=false:=by
  cases l' with
  |false=>rfl
  |true=>simp at n⊢;omega
 rw[Ae (by rw[M];decide)]at c;by_cases b:wrongForm l' bs its=true
 ·rw[Ai b]at c;cases l' with
  |true=>
   have B:(0:Int)<i:=(by simp[wrongForm]at b;have:=q.l;omega);have z:((d:Int)==8)=false:=(by simp;simp at n;omega);go_enter func116,ntmps116;go_wp2_with fail;go_ret2;exact⟨Touch.of_below ((Ac _ _).alloc (Ab _) _), .inr (by rw[c];exact⟨E7 _,rfl⟩)⟩
  |false=>
   have B:(0:Int)<m:=(by simp[wrongForm]at b;omega);go_enter func116,ntmps116;go_wp2_with fail;go_ret2;exact⟨Touch.of_below ((Ac _ _).alloc (Ab _) _), .inr (by rw[c];exact⟨E7 _,rfl⟩)⟩
 rw[Ae b]at c;have J:((l'=true->i=0)/\(l'=false->m=0)):=by
  simp[wrongForm]at b;have:=q.l;constructor
  ·intro y;have:=b.1 y;subst this;simp at*;omega
  ·intro y;have:=b.2 y;subst this;simp at*;omega
 have ae:wt l' bs d<=140737488351232:=by unfold wt;rw[q.l];split<;>omega
 have Y:=Aa q.l;have H3:=Aa F;have H6:=Aa G;have P:=Aa c;have O:=Aa J;have ab:=Aa b;have z:l'=true->((d:Int)==8)=false:=λy=>by subst y;simp;simp at n;omega
 have HD:=Aa z;have N:=Aa u;clear F G c J b z M Q u q;obtain⟨a,A⟩:∃a,wt l' bs d=a:=⟨_,rfl⟩;have C:=Aa A;rw[A]at ae P;clear A;have I:W+a<=150000000000000:=by omega
 have Z:16777215<W+a:=by
  rcases L with h|h|h
  ·exact absurd h n
  ·exact absurd h ab.out
  ·rw[C.out]at h;exact h
 clear n L
 ·have al:(16777215:Int)<((W+a:Nat):Int):=by omega
  have K:wk (T.mk l' bs its) d W=(W+a,20):=by rw[P.out,Ai Z]
  have S:=Aa K;clear K;cases l' with
  |true=>
   have B:i=0:=O.out.1 rfl;subst B;have z:=HD.out rfl;go_enter func116,ntmps116;go_wp2_with fail
   go_cut [] (λv=>Touch g w v/\v.heap[g]?=some (.cells #[ι (W+a:Nat)] 185)/\v.heap[w.heap.size]?=some (.cells #[β true,σ r 0 s,σ t m j] 108))
   case first=>
    go_region_with (first|(go_at_call 151;refine(Fv true r _ s t m j bs d _ Y.out D).mono ?_;rintro e w1⟨rfl,f⟩;have cg:=(f.cell (p:=⟨g,0,none⟩) (Al (c0 _))).trans (c0 _);have fg:=(f.frozen (p:=⟨g,0,none⟩) (Al (c0 _))).trans (R _)))
    all_goals
     go_wp2_with fail
     go_meet
     case rel=>exact Jb N.out C.out I f
   case rest=>
    obtain⟨E,H,k⟩:=hcut;have af:wc.cell? ⟨g,0,none⟩=some (ι (W+a:Nat)):=(by rw[Aj _ _ _ _ _ _ H];rfl);have ah:wc.cell? ⟨w.heap.size,0,none⟩=some (β true):=(by rw[Aj _ _ _ _ _ _ k];rfl);have ad:wc.cell? ⟨w.heap.size,1,none⟩=some (σ r 0 s):=(by rw[Aj _ _ _ _ _ _ k];rfl);have aa:wc.cell? ⟨w.heap.size,2,none⟩=some (σ t m j):=(by rw[Aj _ _ _ _ _ _ k];rfl);go_wp2_with fail;go_ret2;exact⟨E, .inr (by rw[S.out];exact⟨E7 _,rfl⟩)⟩
  |false=>
   have ac:m=0:=O.out.2 rfl;subst ac;go_enter func116,ntmps116;go_wp2_with fail
   go_cut [] (λv=>Touch g w v/\v.heap[g]?=some (.cells #[ι (W+a:Nat)] 185)/\v.heap[w.heap.size]?=some (.cells #[β false,σ r i s,σ t 0 j] 108))
   case first=>
    go_region_with (first|(go_at_call 151;refine(Fv false r _ s t 0 j bs d _ Y.out D).mono ?_;rintro e w1⟨rfl,f⟩;have cg:=(f.cell (p:=⟨g,0,none⟩) (Al (c0 _))).trans (c0 _);have fg:=(f.frozen (p:=⟨g,0,none⟩) (Al (c0 _))).trans (R _)))
    all_goals
     go_wp2_with fail
     go_meet
     case rel=>exact Jb N.out C.out I f
   case rest=>
    obtain⟨E,H,k⟩:=hcut;have af:wc.cell? ⟨g,0,none⟩=some (ι (W+a:Nat)):=(by rw[Aj _ _ _ _ _ _ H];rfl);have ah:wc.cell? ⟨w.heap.size,0,none⟩=some (β false):=(by rw[Aj _ _ _ _ _ _ k];rfl);have ad:wc.cell? ⟨w.heap.size,1,none⟩=some (σ r i s):=(by rw[Aj _ _ _ _ _ _ k];rfl);have aa:wc.cell? ⟨w.heap.size,2,none⟩=some (σ t 0 j):=(by rw[Aj _ _ _ _ _ _ k];rfl);go_wp2_with fail;go_ret2;exact⟨E, .inr (by rw[S.out];exact⟨E7 _,rfl⟩)⟩
end
end Go.Proofs.YtkdlocloepbmcaaGreat
