/- Nodes and their bytes, back and forth, as plain functions: what is written is read as it was; what is read is written as the same bytes. -/
import Derived.Test.YtkdlocloepbmcaaGreatG05
import Derived.Laws.CopyRow
set_option linter.unusedVariables false
set_option linter.unusedSimpArgs false
set_option maxRecDepth 100000
set_option maxHeartbeats 1000000
open Go.Proofs.Tryz Go.RowKit
namespace Go.Proofs.YtkdlocloepbmcaaGreat
section
open Ni (unpP packP rightP)
variable {D : Nat} {r : PR} {b i : List Int} {n m : PN} {u : T}
def OkD(D:Nat)(t:T):Prop:=∀d w,d<=D->w+(enc t).length<=16777215->(wk t d w).2=0/\(wk t d w).1<=w+(enc t).length
theorem OkD.mono{E:Nat}{t:T}(h:OkD D t)(b:E<=D):OkD E t:=λd w hd a=>h d w (by omega) a
theorem NP(bs:τ):max bs.length 1<=(enc (.mk false bs [])).length:=by
 have b:=Jg (.mk false bs []);have a:=EN (.mk false bs []);rw[show bodyOf (.mk false bs [])=bs from by rw[bodyOf,T.bs,T.its,Ct,A7]]at a;omega
theorem G1(D:Nat)(bs:τ):OkD D (.mk false bs []):=λd w hd b=>by
 have c:=NP bs;have a:wt false bs d=max bs.length 1:=by unfold wt;simp
 rw[IX,Ae (by simp),Ae (by simp[wrongForm]),a,Ae (by omega),Er];exact⟨rfl,by dsimp only;omega⟩
theorem VP{D:Nat}:∀{ts:List T},(∀t∈ts,OkD D t)->∀d w,d<=D->w+(encs ts).length<=16777215->(wks ts d w).2=0/\(wks ts d w).1<=w+(encs ts).length
 |[],_,d,w,_,_=>by rw[Er];exact⟨rfl,by simp⟩
 |t::r,h,d,w,hd,a=>by
  rw[C9,Af]at a⊢;obtain⟨b,f⟩:=h t (by simp) d w hd (by omega);rw[Fi,Ai b];obtain⟨e,g⟩:=VP (λu c=>h u (Az _ c)) d (wk t d w).1 hd (by omega);exact⟨e,by omega⟩
theorem Sd(j:D<=7){ts:List T}(h:∀t∈ts,OkD (D+1) t):OkD D (.mk true [] ts):=λd w b e=>by
 have g:(enc (.mk true [] ts)).length=(hd 192 (encs ts).length).length+(encs ts).length:=by rw[Y2 (t:= .mk true [] ts) rfl rfl,Af];rfl
 have f:=NO 192 (encs ts).length;have c:wt true [] d<=1:=by unfold wt;split<;>simp
 rw[IX,Ae (by simp;omega),Ae (by simp[wrongForm]),Ae (by omega)];obtain⟨a,i⟩:=VP h (d+1) (w+wt true [] d) (by omega) (by omega);exact⟨a,by omega⟩
theorem ZX{t:T}(h:OkD D t)(a:form t=true)(d:(enc t).length<=16777215):(mP t).2=0:=by
 have b:=(h 0 0 (by omega) (by omega)).1;have c:=EN t;unfold mP;rw[Ae (by rw[b];simp),Ae (by rw[IY a];omega)]
theorem Se{bs:τ}(h:bs.length<=65536):(mP (.mk false bs [])).2=0:=by
 refine ZX (G1 0 bs) (by rw[FX];simp[E3]) ?_;rw[Ea,Ct,A7];have:=Sb (base:=baseOf false) (n:=bs.length) (by omega);split
 ·omega
 ·rw[Af];omega
theorem Fc{dk:τ->Int}(h:rrefP dk r=true):(r.k=0/\r.d=z32/\r.i=[])∨(r.k=2/\r.i=[])∨(r.k=1/\r.d=z32/\r.i.length<32/\dk r.i≠0):=by
 unfold rrefP at h;by_cases c:r.k=0
 ·simp[c]at h;exact .inl ⟨c,h.1,h.2⟩
 ·by_cases b:r.k=2
  ·simp[b]at h;exact .inr (.inl ⟨b,h⟩)
  ·by_cases a:r.k=1
   ·simp[a]at h;exact .inr (.inr ⟨a,h.1.1,h.1.2,h.2⟩)
   ·simp[c,a,b]at h
theorem Fn{t:T}(c:isB b)(hd:decP b= .ok t)(a:nodeOfP t=some n):t.l=true/\t.bs=[]/\forms t.its=true:=Ki (G0 c hd).2.2 (Kj a).1
theorem PR.ext{a b:PR}(c:a.k=b.k)(d:a.d=b.d)(e:a.i=b.i):a=b:=by cases a;cases b;simp_all
theorem PN.ext{a b:PN}(c:a.k=b.k)(f:a.p=b.p)(e:a.v=b.v)(g:a.c=b.c)(d:a.ks=b.ks):a=b:=by cases a;cases b;simp_all
theorem Jl(c:okR r)(h:rrefP KD r=true):refOfP (refItemP r)=some r/\(mP (refItemP r)).2=0/\(enc (refItemP r)).length<=36:=by
 rcases Fc h with⟨a,b,f⟩|⟨a,b⟩|⟨a,b,f,k⟩
 ·have e:refItemP r=t0:=by unfold refItemP;rw[Ae (by omega),Ae (by omega)]
  rw[e];refine⟨?_,Se (by simp),by decide+kernel⟩;unfold refOfP;rw[Ae (by simp[t0,T.l]),Ai (by rfl)];exact Ao some (PR.ext a.symm b.symm f.symm)
 ·have e:refItemP r= .mk false r.d []:=by unfold refItemP;rw[Ae (by omega),Ai a]
  rw[e];have j:=c.2.1;refine⟨?_,Se (by omega),?_⟩
  ·unfold refOfP;rw[Ae (by simp[T.l]),Ae (by show¬r.d.length=0;omega),Ai (by exact j)];exact Ao some (PR.ext a.symm rfl b.symm)
  ·rw[Ea,Ct,A7];have:=Sb (base:=baseOf false) (n:=r.d.length) (by omega);split
   ·omega
   ·rw[Af];omega
 ·obtain⟨m,i,_⟩:=Ih k;obtain⟨t,hd,l,p⟩:=Fg c.2.2 i;have e:refItemP r=t:=by unfold refItemP;rw[Ai a,hd]
  rw[e];obtain⟨d,g,o⟩:=G0 c.2.2 hd;refine⟨?_,g,by rw[d];omega⟩;unfold refOfP;rw[Ai (Fn c.2.2 hd l).1,Ai g,d];exact Ao some (PR.ext a.symm b.symm rfl)
theorem FC(b:form u=true)(h:¬u.l=true):u= .mk false u.bs []:=by
 obtain⟨l,bs,its⟩:=u;have a:l=false:=by simpa[T.l]using h
 subst a;rw[Ej b];rfl
theorem GM(f:form u=true)(h:refOfP u=some r):refItemP r=u/\(u.l=true->(mP u).2=0/\r=⟨1,z32,enc u⟩)/\(¬u.l=true->r.k≠1):=by
 unfold refOfP at h;by_cases a:u.l=true
 ·rw[Ai a]at h;by_cases b:(mP u).2=0
  ·rw[Ai b]at h;cases h;refine⟨?_,λ_=>⟨b,rfl⟩,λh=>absurd a h⟩;unfold refItemP;rw[Ai rfl,Jh b]
  ·rw[Ae b]at h;cases h
 ·rw[Ae a]at h;have e:=FC f a;by_cases c:u.bs.length=0
  ·rw[Ai c]at h;cases h;refine⟨?_,λh=>absurd h a,λ_=>by show(0:Int)≠1;decide⟩;rw[e,Aw c];rfl
  ·rw[Ae c]at h;by_cases d:u.bs.length=32
   ·rw[Ai d]at h;cases h;refine⟨?_,λh=>absurd h a,λ_=>by show(2:Int)≠1;decide⟩;rw[e];rfl
   ·rw[Ae d]at h;cases h
theorem ME:∀{a:List PR},(∀r∈a,refOfP (refItemP r)=some r)->kidsP (a.map refItemP)=some a
 |[],_=>rfl
 |r::l,h=>by rw[Bd,kidsP,h r (by simp),ME λx b=>h x (Az _ b)]
theorem MF:∀{ts:List T}{b:List PR},(∀t∈ts,form t=true)->kidsP ts=some b->b.map refItemP=ts
 |[],b,_,h=>by cases h;rfl
 |t::l,b,e,h=>by
  rw[kidsP]at h;cases d:refOfP t with
  |none=>rw[d]at h;cases h
  |some a=>
   rw[d]at h;dsimp only at h;cases c:kidsP l with
   |none=>rw[c]at h;cases h
   |some l'=>
    rw[c]at h;cases h;rw[Bd,(GM (e t (by simp)) d).1,MF (λu f=>e u (Az _ f)) c]
theorem EA(h:NR n=true):(n.k=1/\n.p.length<=64/\rightP n.p=true/\0<n.v.length/\n.v.length<=256/\rrefP KD n.c=true/\n.c.k=0/\n.ks=[])∨
 (n.k=2/\0<n.p.length/\n.p.length<=64/\rightP n.p=true/\n.v=[]/\rrefP KD n.c=true/\(n.c.k=2∨KD n.c.i=3)/\n.ks=[])∨
 (n.k=3/\n.p=[]/\n.v.length<=256/\rrefP KD n.c=true/\n.c.k=0/\n.ks.length=16/\(∀r∈n.ks,rrefP KD r=true)/\2<=(if 0<n.v.length then 1 else 0)+ways n.ks):=by
 have a:=KF h;unfold NR nright rpathP rvalueP rchildP rkidsP at h;have b:rrefP KD n.c=true:=by
  cases j:rrefP KD n.c with
  |true=>rfl
  |false=>rw[j]at h;simp at h
 rcases a with a|a|a
 ·left;simp[a,b]at h;obtain⟨⟨⟨⟨_,f,d⟩,i,e⟩,g⟩,c⟩:=h;exact⟨a,f,d,BH.2 i,e,b,g,c⟩
 ·right;left;simp[a,b]at h;obtain⟨⟨⟨⟨_,f,d,i⟩,e⟩,g⟩,c⟩:=h;exact⟨a,BH.2 f,d,i,e,b,g,c⟩
 ·right;right;simp[a,b]at h;obtain⟨⟨⟨⟨_,f⟩,d⟩,i⟩,e,g,c⟩:=h;exact⟨a,f,d,b,i,e,g,by simpa using c⟩
theorem MG:∀{ts:List T}{c:List PR},kidsP ts=some c->∀u∈ts,∃r∈c,refOfP u=some r
 |[],c,h,u,b=>by cases b
 |t::l,c,h,u,b=>by
  rw[kidsP]at h;cases e:refOfP t with
  |none=>rw[e]at h;cases h
  |some a=>
   rw[e]at h;dsimp only at h;cases d:kidsP l with
   |none=>rw[d]at h;cases h
   |some l'=>
    rw[d]at h;cases h;rcases Ay.1 b with rfl|b
    ·exact⟨a,by simp,e⟩
    ·obtain⟨r,g,f⟩:=MG d u b;exact⟨r,by simp[g],f⟩
theorem L3:∀its:List T,its.length<=(encs its).length
 |[]=>by simp
 |t::r=>by
  have:=Jg t;have:=L3 r;rw[C9,Af,AE];omega
theorem Jm:∀{its:List T}{u:T},u∈its->(enc u).length+its.length<=(encs its).length+1
 |t::r,u,a=>by
  rw[C9,Af,AE];have:=Jg t;rcases Ay.1 a with rfl|a
  ·have:=L3 r;omega
  ·have:=Jm a;omega
theorem Xax{its:List T}(h:its.length=2):its=[its.getD 0 t0,its.getD 1 t0]:=by
 match its,h with
 |[x,y],_=>rfl
theorem NQ{its:List T}(h:its.length=17):its=its.take 16++[its.getD 16 t0]:=by
 have a:its.drop 16=[its.getD 16 t0]:=by
  rw[Bv (by omega),Bx (by omega),List.getD,Ad (by omega)];rfl
 rw[<-a,Bj]
theorem G2{t:T}(d:forms t.its=true)(h:nodeOfP t=some n):
 (∃x y,t.its=[x,y]/\x= .mk false x.bs []/\(unpP x.bs).2.2=0/\(((unpP x.bs).2.1=true/\y= .mk false y.bs []/\n=⟨1,(unpP x.bs).1,y.bs,r0,[]⟩)∨((unpP x.bs).2.1=false/\∃c,refOfP y=some c/\form y=true/\n=⟨2,(unpP x.bs).1,[],c,[]⟩)))∨
 (∃ts y g,t.its=ts++[y]/\ts.length=16/\y= .mk false y.bs []/\kidsP ts=some g/\(∀u∈ts,form u=true)/\n=⟨3,[],y.bs,r0,g⟩):=by
 unfold nodeOfP at h;by_cases l:t.its.length=2
 ·rw[Ai l]at h;left;have a:=Xax l;generalize t.its.getD 0 t0=x at h a;generalize t.its.getD 1 t0=y at h a;have s:=CN d x (by rw[a];simp);have j:=CN d y (by rw[a];simp);unfold pathP at h;by_cases i:x.l=true∨(unpP x.bs).2.2≠0
  ·rw[Ai i]at h;cases h
  ·rw[Ae i]at h;have q:¬x.l=true:=λe=>i (.inl e);have r:(unpP x.bs).2.2=0:=Decidable.byContradiction λe=>i (.inr e);refine⟨x,y,a,FC s q,r,?_⟩;by_cases f:(unpP x.bs).2.1=true
   ·rw[Ai f]at h;by_cases b:y.l=true
    ·rw[Ai b]at h;cases h
    ·rw[Ae b]at h;cases h;exact .inl ⟨f,FC j b,rfl⟩
   ·rw[Ae f]at h;cases p:refOfP y with
    |none=>rw[p]at h;cases h
    |some c=>
     rw[p]at h;cases h;exact .inr ⟨by simpa using f,c,rfl,j,rfl⟩
 ·rw[Ae l]at h;by_cases k:t.its.length=17
  ·rw[Ai k]at h;right;have a:=NQ k;have o:(t.its.take 16).length=16:=(by rw[Ap];omega);generalize t.its.take 16=ts at h a o;generalize t.its.getD 16 t0=y at h a;have j:=CN d y (by rw[a];simp);unfold branchP at h;cases m:kidsP ts with
   |none=>rw[m]at h;cases h
   |some g=>
    rw[m]at h;dsimp only at h;by_cases b:y.l=true
    ·rw[Ai b]at h;cases h
    ·rw[Ae b]at h;cases h;exact⟨ts,y,g,a,o,FC j b,m,λu v=>CN d u (by rw[a];simp[v]),rfl⟩
  ·rw[Ae k]at h;cases h
theorem L4{y:T}(h:y= .mk false y.bs []):¬y.l=true:=by rw[h];simp[T.l]
theorem NS{t:T}(a:isB b)(h:decP b= .ok t)(c:u∈t.its):isB (enc u):=λx d=>a x ((Jk a h c).2 x d)
theorem Jn{t:T}(k:isB i)(M:ND i=some m)(j:decP i= .ok t)(a:u∈t.its)(g:u.l=true):
 ∃e,ND (enc u)=some e/\decP (enc u)= .ok u/\isB (enc u)/\((m.k=2/\e.k=3/\(enc u).length+2<=i.length)∨(m.k=3/\(enc u).length+17<=i.length)):=by
 obtain⟨t',l,A,z⟩:=Fg k M;rw[j]at l;cases l;obtain⟨l,S,V⟩:=G0 k j;obtain⟨N,O,J⟩:=Fn k j A;have P:i.length=(hd 192 (encs t.its).length).length+(encs t.its).length:=by rw[<-l,Y2 N O,Af]
 have U:=NO 192 (encs t.its).length;have Q:=Jm a;have v:=NS k j a;rcases G2 J A with⟨x,y,f,L,_,s⟩|⟨ts,y,R,f,G,q,I,F,rfl⟩
 ·have B:t.its.length=2:=by rw[f];rfl
  rw[f]at a;simp only[Ay,BN,Dn]at a;rcases a with rfl|rfl
  ·exact absurd g (L4 L)
  ·rcases s with⟨_,q,_⟩|⟨_,c,s,K,rfl⟩
   ·exact absurd g (L4 q)
   ·obtain⟨o,p⟩:=(GM K s).2.1 g;rcases EA z with h|h|h
    ·exact absurd h.1 (by simp)
    ·obtain⟨_,_,_,_,_,_,d,_⟩:=h;rw[p]at d;have w:KD (enc u)=3:=by
      rcases d with d|d
      ·exact absurd d (by simp)
      ·exact d
     obtain⟨e,n,E⟩:=Ih (b:=enc u) (by rw[w];decide);exact⟨e,n,Jh o,v, .inl ⟨rfl,by rw[E,w],by omega⟩⟩
    ·exact absurd h.1 (by simp)
 ·have B:t.its.length=17:=by rw[f,Af,G];rfl
  rw[f]at a;rcases AP.1 a with a|a
  ·obtain⟨r,H,D⟩:=MG I u a;obtain⟨o,p⟩:=(GM (F u a) D).2.1 g;rcases EA z with h|h|h
   ·exact absurd h.1 (by simp)
   ·exact absurd h.1 (by simp)
   ·obtain⟨_,_,_,_,_,_,C,_⟩:=h;have:=C r H;rw[p]at this;rcases Fc this with h|h|h
    ·exact absurd h.1 (by show¬(1:Int)=0;decide)
    ·exact absurd h.1 (by show¬(1:Int)=2;decide)
    ·obtain⟨e,n,_⟩:=Ih (b:=enc u) h.2.2.2;exact⟨e,n,Jh o,v, .inr ⟨rfl,by omega⟩⟩
  ·simp only[Ay,BN,Dn]at a;subst a;exact absurd g (L4 q)
theorem KG{t:T}(g:isB i)(k:ND i=some m)(a:decP i= .ok t)(n:D<=7)(h:∀u∈t.its,u.l=true->OkD (D+1) u):OkD D t:=by
 obtain⟨t',b,o,p⟩:=Fg g k;rw[a]at b;cases b;obtain⟨d,e,j⟩:=Fn g a o;obtain⟨l,bs,its⟩:=t;simp only[T.l,T.bs,T.its]at d e j h;subst d e;refine Sd n λu f=>?_;by_cases c:u.l=true
 ·exact h u f c
 ·rw[FC (CN j u f) c];exact G1 _ _
theorem XbU{t:T}(c:isB i)(b:ND i=some m)(a:decP i= .ok t)(f:m.k=3)(g:i.length<=16):OkD 7 t:=by
 refine KG c b a (Ab _) λu e d=>?_;obtain⟨j,_,_,_,h|h⟩:=Jn c b a e d
 ·omega
 ·omega
theorem XbS{t:T}(c:isB i)(b:ND i=some m)(a:decP i= .ok t)(k:i.length<=16):OkD 6 t:=by
 refine KG c b a (by omega) λu g d=>?_;obtain⟨l,f,e,j,h|h⟩:=Jn c b a g d
 ·exact XbU j f e h.2.1 (by omega)
 ·omega
theorem XbV{t:T}(c:isB i)(b:ND i=some m)(a:decP i= .ok t)(k:m.k=3)(l:i.length<=33):OkD 5 t:=by
 refine KG c b a (by omega) λu g d=>?_;obtain⟨n,f,e,j,h|h⟩:=Jn c b a g d
 ·omega
 ·exact XbS j f e (by omega)
theorem XbW{t:T}(f:isB i)(b:ND i=some m)(a:decP i= .ok t)(k:i.length<=33):OkD 4 t:=by
 refine KG f b a (by omega) λu j g=>?_;obtain⟨l,d,c,e,h|h⟩:=Jn f b a j g
 ·exact XbV e d c h.2.1 (by omega)
 ·exact(XbS e d c (by omega)).mono (by omega)
theorem VQ(b:okR r)(h:rrefP KD r=true):OkD 4 (refItemP r)/\form (refItemP r)=true:=by
 refine⟨?_,(Jd (Jl b h).2.1).2.2⟩;rcases Fc h with⟨a,f,i⟩|⟨a,f⟩|⟨a,f,i,g⟩
 ·have e:refItemP r=t0:=by unfold refItemP;rw[Ae (by omega),Ae (by omega)]
  rw[e];exact G1 _ _
 ·have e:refItemP r= .mk false r.d []:=by unfold refItemP;rw[Ae (by omega),Ai a]
  rw[e];exact G1 _ _
 ·obtain⟨m,d,_⟩:=Ih g;obtain⟨t,c,k,j⟩:=Fg b.2.2 d;have e:refItemP r=t:=by unfold refItemP;rw[Ai a,c]
  rw[e];exact XbW b.2.2 d c (by omega)
theorem ID(bs:τ):form (.mk false bs [])=true:=by rw[FX];simp[E3]
theorem Jo{bs:τ}(h:bs.length<=65536):(enc (.mk false bs [])).length<=bs.length+4:=by
 rw[Ea,Ct,A7];have:=Sb (base:=baseOf false) (n:=bs.length) (by omega);split
 ·omega
 ·rw[Af];omega
theorem Sf{c:Nat}:∀{ts:List T},(∀t∈ts,(enc t).length<=c)->(encs ts).length<=c*ts.length
 |[],_=>by rw[Ct];simp
 |t::r,h=>by
  have:=h t (by simp);have:=Sf λu a=>h u (Az _ a);rw[C9,Af,AE,Nat.mul_succ];omega
theorem IE{ts:List T}(h:∀t∈ts,OkD 4 t/\form t=true)(e:(encs ts).length<=65536):(mP (.mk true [] ts)).2=0/\(enc (.mk true [] ts)).length<=65540:=by
 have c:enc (.mk true [] ts)=hd 192 (encs ts).length++encs ts:=Y2 (t:= .mk true [] ts) rfl rfl;have d:=Sb (base:=192) (n:=(encs ts).length) (by omega);have b:(enc (.mk true [] ts)).length<=65540:=by rw[c,Af];omega
 refine⟨ZX (D:=3) (Sd (by omega) λt a=>(h t a).1) ?_ (by omega),b⟩;rw[FX,Ai rfl,OJ λt a=>(h t a).2];rfl
theorem MH{p:τ}(leaf:Bool)(h:p.length<=64):(packP p leaf).1.length<=33:=by
 unfold packP;split
 ·dsimp only;rw[Ni.pack_len];omega
 ·simp
theorem Ek(E:okN n)(h:NR n=true):(mP (itemP n)).2=0/\nodeOfP (itemP n)=some n/\(enc (itemP n)).length<=65540:=by
 obtain⟨v,F,w,p⟩:=E;rcases EA h with⟨f,m,g,j,s,d,l,o⟩|⟨f,m,g,j,s,d,l,o⟩|⟨f,m,g,j,s,d,l,o⟩
 ·have e:itemP n= .mk true [] [.mk false (packP n.p true).1 [], .mk false n.v []]:=by unfold itemP;rw[Ae (by omega),Ai f]
  rw[e];have C:=MH true m
  obtain⟨i,k⟩:=IE (ts:=[.mk false (packP n.p true).1 [], .mk false n.v []]) (λt a=>by
   simp only[Ay,BN,Dn]at a;rcases a with rfl|rfl<;>exact⟨G1 _ _,ID _⟩) (by
   have y:=Jo (bs:=(packP n.p true).1) (by omega);have z:=Jo (bs:=n.v) (by omega);rw[C9,C9,Ct,Af,Af,BV];omega)
  refine⟨i,?_,k⟩;unfold nodeOfP;rw[Ai (by rfl)];have q:unpP (packP n.p true).1=(n.p,true,0):=by rw[Ni.packP_yes g];exact Ni.unp_pack v g
  unfold pathP;show(if(false=true)∨(unpP (packP n.p true).1).2.2≠0 then none else if(unpP (packP n.p true).1).2.1=true then(if false=true then none else some (⟨1,(unpP (packP n.p true).1).1,n.v,r0,[]⟩:PN))else _)=some n;rw[q,Ae (by simp),Ai rfl,Ae (by simp)];have u:n.c=r0:=by
   rcases Fc d with c|c|c
   ·exact PR.ext c.1 c.2.1 c.2.2
   ·omega
   ·omega
  exact Ao some (PN.ext f.symm rfl rfl u.symm o.symm)
 ·have e:itemP n= .mk true [] [.mk false (packP n.p false).1 [],refItemP n.c]:=by unfold itemP;rw[Ae (by omega),Ae (by omega)]
  rw[e];have C:=MH false g;obtain⟨D,G,H⟩:=Jl w d
  obtain⟨i,k⟩:=IE (ts:=[.mk false (packP n.p false).1 [],refItemP n.c]) (λt a=>by
   simp only[Ay,BN,Dn]at a;rcases a with rfl|rfl
   ·exact⟨G1 _ _,ID _⟩
   ·exact VQ w d) (by
   have y:=Jo (bs:=(packP n.p false).1) (by omega);rw[C9,C9,Ct,Af,Af,BV];omega)
  refine⟨i,?_,k⟩;unfold nodeOfP;rw[Ai (by rfl)];have q:unpP (packP n.p false).1=(n.p,false,0):=by rw[Ni.packP_yes j];exact Ni.unp_pack v j
  unfold pathP
  show(if(false=true)∨(unpP (packP n.p false).1).2.2≠0 then none else if(unpP (packP n.p false).1).2.1=true then _ else match refOfP (refItemP n.c)with
   |none=>none
   |some c=>some (⟨2,(unpP (packP n.p false).1).1,[],c,[]⟩:PN))=some n
  rw[q,D,Ae (by simp),Ae (by simp)];exact Ao some (PN.ext f.symm rfl s.symm rfl o.symm)
 ·have e:itemP n= .mk true [] (n.ks.map refItemP++[.mk false n.v []]):=by unfold itemP;rw[Ai f]
  rw[e];have x:∀t∈n.ks.map refItemP,∃r∈n.ks,refItemP r=t:=λt a=>BC.1 a
  obtain⟨i,k⟩:=IE (ts:=n.ks.map refItemP++[.mk false n.v []]) (λt a=>by
   rcases AP.1 a with a|a
   ·obtain⟨r,b,rfl⟩:=x t a;exact VQ (p r b) (l r b)
   ·simp only[Ay,BN,Dn]at a;subst a;exact⟨G1 _ _,ID _⟩) (by
   have y:=Jo (bs:=n.v) (by omega)
   have z:=Sf (c:=36) (ts:=n.ks.map refItemP) (λt a=>by
    obtain⟨r,b,rfl⟩:=x t a;exact(Jl (p r b) (l r b)).2.2)
   rw[AQ,d]at z;rw[EK,C9,Ct,Af,Af,BV];omega)
  refine⟨i,?_,k⟩;unfold nodeOfP;have B:(n.ks.map refItemP++[T.mk false n.v []]).length=17:=by simp[d]
  rw[show(T.mk true [] (n.ks.map refItemP++[T.mk false n.v []])).its=n.ks.map refItemP++[T.mk false n.v []]from rfl,Ae (by omega),Ai B];have A:(n.ks.map refItemP).length=16:=by simp[d]
  rw[Cw (by omega),A9 (by omega),List.getD,Bn (by omega),A];unfold branchP;rw[ME λr b=>(Jl (p r b) (l r b)).1];show(if(false=true)then none else some (⟨3,[],n.v,r0,n.ks⟩:PN))=some n;rw[Ae (by simp)];have u:n.c=r0:=by
   rcases Fc j with c|c|c
   ·exact PR.ext c.1 c.2.1 c.2.2
   ·omega
   ·omega
  exact Ao some (PN.ext f.symm m.symm rfl u.symm rfl)
def NE(n:PN):τ:=enc (itemP n)
theorem Gk(f:isB b)(h:ND b=some n):NR n=true/\NE n=b/\decP b= .ok (itemP n):=by
 obtain⟨t,e,m,D⟩:=Fg f h;obtain⟨H,K,J⟩:=G0 f e;obtain⟨q,r,s⟩:=Fn f e m;have o:itemP n=t:=by
  obtain⟨l,bs,its⟩:=t;simp only[T.l,T.bs,T.its]at q r s;subst q r;have A:∀u∈its,isB (enc u):=λu E=>NS f e E;rcases G2 (t:= .mk true [] its) s m with⟨x,y,a,j,v,k⟩|⟨ts,y,F,a,I,i,G,B,rfl⟩
  ·simp only[T.its]at a;have w:isB x.bs:=by
    have:=A x (by rw[a];simp);intro z p;refine this z ?_;rw[j,Ea,Ct,A7];split
    ·exact p
    ·exact DB _ p
   have d:=Ni.pack_unp w v;rcases k with⟨g,i,rfl⟩|⟨g,c,k,C,rfl⟩
   ·unfold itemP;rw[Ae (by show¬(1:Int)=3;decide),Ai rfl];rw[g]at d;show T.mk true [] [.mk false (packP (unpP x.bs).1 true).1 [], .mk false y.bs []]=_;rw[d,a,<-j,<-i]
   ·unfold itemP;rw[Ae (by show¬(2:Int)=3;decide),Ae (by show¬(2:Int)=1;decide)];rw[g]at d;show T.mk true [] [.mk false (packP (unpP x.bs).1 false).1 [],refItemP c]=_;rw[d,a,<-j,(GM C k).1]
  ·simp only[T.its]at a;unfold itemP;rw[Ai rfl];show T.mk true [] (F.map refItemP++[.mk false y.bs []])=_;rw[MF B G,a,<-i]
 refine⟨D,?_,by rw[o];exact e⟩;unfold NE;rw[o,H]
theorem L5(k:isB b)(h:ND b=some n):okN n:=by
 obtain⟨t,l,q,f⟩:=Fg k h;have B:=GL k l q;obtain⟨N,O,p⟩:=Fn k l q;have j:∀u∈t.its,u= .mk false u.bs []->isB u.bs:=λu g G z d=>by
  refine NS k l g z ?_;rw[G,Ea,Ct,A7];split
  ·exact d
  ·exact DB _ d
 have d:isB z32/\z32.length=32:=⟨λx a=>by rw[z32,Ce]at a;omega,by simp[z32]⟩;have v:∀u r,u∈t.its->refOfP u=some r->isB r.d/\r.d.length=32:=λu r g h=>by
  by_cases m:u.l=true
  ·rw[((GM (CN p u g) h).2.1 m).2];exact d
  ·have E:=FC (CN p u g) m;unfold refOfP at h;rw[Ae m]at h;split at h
   ·cases h;exact d
   ·split at h
    ·rename_i C;cases h;exact⟨j u g E,C⟩
    ·cases h
 rcases G2 p q with⟨x,y,i,a,I,s⟩|⟨ts,y,M,i,K,o,F,J,rfl⟩
 ·have H:x∈t.its:=by rw[i];simp
  have A:y∈t.its:=by rw[i];simp
  have w:isB (unpP x.bs).1:=Ni.unp_isB (j x H a);rcases s with⟨D,o,rfl⟩|⟨D,c,s,L,rfl⟩
  ·exact⟨w,j y A o,⟨d.1,d.2,λx a=>by cases a⟩,λr f=>by cases f⟩
  ·have:=v y c A s;exact⟨w,(λx a=>by cases a),⟨this.1,this.2,(B c (.inl rfl)).2⟩,λr f=>by cases f⟩
 ·refine⟨(λx a=>by cases a),j y (by rw[i];simp) o,⟨d.1,d.2,λx a=>by cases a⟩,λr f=>?_⟩;obtain⟨u,g,e⟩:=(L0 F).2 r f;have:=v u r (by rw[i];simp[g]) e;exact⟨this.1,this.2,(B r (.inr f)).2⟩
theorem VR(a:okN n)(h:NR n=true)(b:isB (NE n)):ND (NE n)=some n:=
 Xaw b (Jh (Ek a h).1) (Ek a h).2.1 h
end
section
variable {w0 w w' v' : World} {g o n c : Nat} {y : V} {K L : Nat → Prop} {a : Option Addr} {r : PR} {cs : List Value}
section
variable {P : Program} {md : Region.Mode} {ops : Array Oper} {Q : Exit → Act → World → Prop} {S : World → Prop} {fuel : Nat} {listed : Array Bool} {a : Act} {w : World}
theorem Br(i d:Nat)(v:Δ){o:Oper}(e:ops[i]?=some o)(hd:o.dst=some d)(l:Region.noSelect ops=true)(b:Region.free md ops listed i=true)(j:(Region.ready md ops listed).contains i=true)
 (m:∀c a w,Q (.panic c) (a.put o.dst v) w->Q (.panic c) a w) (k:Region.wanted o (yielded ops a.tmps)=true) (f:∀w,S w->(execOp a.eval o).run P w= .ok (.value v) w) (g:S w)
 (h:wpAnyH P md ops Q S fuel (listed.setIfInBounds i true) (a.put (some d) v) w):wpAnyH P md ops Q S (fuel+1) listed a w:=
 wpAnyH_take e l b j m (Or.inl ⟨k,f⟩) g (hd▸h)
theorem CE(i d:Nat)(v:Δ){rs:List Nat}{w':Γ}{o:Oper}(c:ops[i]?=some o)(hd:o.dst=some d)(j:Region.wanted o (yielded ops a.tmps)=true)(b:(execOp a.eval o).run P w= .ok (.value v) w')(e:S w')
 (h:wpAnyH P md ops Q S fuel (listed.setIfInBounds i true) (a.put (some d) v) w') (g:AllReadyH P md ops Q S fuel listed a w rs):AllReadyH P md ops Q S fuel listed a w (i::rs):=
 D9 c (λK f=>by
  rw[Ai j];unfold Oper.wp;rw[b,Oper.upon_value];exact f _ _ e (λ_=>hd▸h)) g
theorem Es(i d:Nat){rs:List Nat}{o:Oper}(j:ops[i]?=some o)(hd:o.dst=some d)(l:Region.wanted o (yielded ops a.tmps)=true)(f:FuncId)(args:Ξ)(c:(execOp a.eval o).run P w= .ok (.enter f args) w)
 {R:Δ->Γ->Prop} (n:Calls P f args w λe w'=>∃v,e=ω v/\R v w') (g:∀v w',R v w'->S w') (h:∀v w',R v w'->wpAnyH P md ops Q S fuel (listed.setIfInBounds i true) (a.put (some d) v) w')
 (m:AllReadyH P md ops Q S fuel listed a w rs):AllReadyH P md ops Q S fuel listed a w (i::rs):=
 D9 j (λK k=>by
  rw[Ai l];unfold Oper.wp;rw[c,Oper.upon_enter];refine n.mono ?_;rintro e w'⟨v,rfl,b⟩;exact k _ _ (g v w' b) (λ_=>hd▸h v w' b)) m
end
section
variable {a : Act} {w : World}
theorem FN{x:Operand}{p:Addr}{v:Δ}{o:Oper}(c:o.op= .load 32 x)(b:a.eval x= .pointer (some p))(d:w.cell? p=some v):(execOp a.eval o).run prog w= .ok (.value v) w:=by
 unfold execOp;rw[c];simp only[b];go_simp
theorem CQ{x:Operand}{p:Addr}{v:Δ}{o:Oper}(c:o.op= .load 106 x)(b:a.eval x= .pointer (some p))(d:w.cell? p=some v):(execOp a.eval o).run prog w= .ok (.value v) w:=by
 unfold execOp;rw[c];simp only[b];go_simp
theorem OY{x:Operand}{p:Addr}{v:Δ}{o:Oper}(c:o.op= .load 4 x)(b:a.eval x= .pointer (some p))(d:w.cell? p=some v):(execOp a.eval o).run prog w= .ok (.value v) w:=by
 unfold execOp;rw[c];simp only[b];go_simp
theorem GN{x:Operand}{g off:Nat}{v0 c b:Δ}{o:Oper}(d:o.op= .load 108 x)(e:a.eval x=ψ g off)(h:w.cell? ⟨g,off,none⟩=some v0)(f:w.cell? ⟨g,off+1,none⟩=some c)(i:w.cell? ⟨g,off+2,none⟩=some b):(execOp a.eval o).run prog w= .ok (.value (γ #[v0,c,b])) w:=by
 unfold execOp;rw[d];simp only[e];go_simp
theorem ER{x y:Operand}{g off j m c:Nat}{o:Oper}(b:o.op= .indexAddr 106 x y)(e:a.eval x=σ (ζ g off) m c)(d:a.eval y=ι j)(h:j<m):(execOp a.eval o).run prog w= .ok (.value (ψ g (off+j*3))) w:=by
 have f:(j:Int)<m:=by omega
 unfold execOp;rw[b];simp only[e,d];go_simp
end
theorem below_go(h:Λ w0 w)(a:Λ w w'):Λ w0 w':=h.trans (a.mono h.size)
theorem AS(a:Λ w w'){v:Δ}(h:w.cell? ⟨g,o,none⟩=some v):w'.cell? ⟨g,o,none⟩=some v:=(a.cell (p:=⟨g,o,none⟩) (Al h)).trans h
theorem ag_nil(w:Γ):Ag w none 0 0 []:=⟨.inl ⟨rfl,rfl⟩,λ_=>⟨rfl,rfl⟩,rfl,λx a=>by cases a⟩
structure B1(g:Nat)(v:Γ)(y:V):Prop where
 c0:v.cell? ⟨g,0,none⟩=some (β y.l)
 c1:v.cell? ⟨g,1,none⟩=some (σ y.ba y.bn y.bc)
 c2:v.cell? ⟨g,2,none⟩=some (σ y.ia y.m y.ic)
theorem B1.go{v:Γ}(h:B1 g v y)(a:Λ v v'):B1 g v' y:=⟨AS a h.c0,AS a h.c1,AS a h.c2⟩
theorem E9(w:Γ)(y:V):B1 w.heap.size (w.alloc (.cells #[β y.l,σ y.ba y.bn y.bc,σ y.ia y.m y.ic] 108)) y:=by
 have h:=Ak w (.cells #[β y.l,σ y.ba y.bn y.bc,σ y.ia y.m y.ic] 108);exact⟨by rw[Aj _ _ _ _ _ _ h];rfl,by rw[Aj _ _ _ _ _ _ h];rfl,by rw[Aj _ _ _ _ _ _ h];rfl⟩
theorem below_new(w:Γ)(o:Obj):Λ w (w.alloc o):=(Ac _ _).alloc (Ab _) _
theorem B1.alloc{v:Γ}(h:B1 g v y)(o:Obj):B1 g (v.alloc o) y:=h.go (below_new v o)
theorem Gl{t:T}(h:(mP t).2=0):encP t=(enc t,0):=by unfold encP;rw[Ai h]
theorem NT{t:T}(h:(mP t).2≠0):encP t=([],(mP t).2):=by unfold encP;rw[Ae h]
theorem VS{t:T}(h:(mP t).2=0):(enc t).length<=16777220:=Lr (Jd h).2.1
def Fr(base:Nat)(w:Γ)(a:Ω)(n:Nat):Prop:=∀g off,a=some ⟨g,off,none⟩->0<n->base<=g/\∀o,w.frozen? ⟨g,o,none⟩=false
theorem IF(t:T)(x:V)(w:Γ)(y:Lies w t x):
 Calls prog 57 #[γ #[β x.l,σ x.ba x.bn x.bc,σ x.ia x.m x.ic]] w λe w'=>(∃a n c,e=ω (θ #[σ a n c,ι ((encP t).2:Nat)])/\Ag w' a n c (encP t).1/\Fr w.heap.size w' a n)/\Λ w w':=by
 have s:=Aa y;have O:=Aa (V7 t x y);clear y;by_cases b:(mP t).2=0
 ·obtain⟨h,m,F⟩:=Jd b;have E:=Lr m;have k:encP t=(enc t,0):=by rw[encP,Ai b]
  rw[k];have L:=Aa (Lq t O.out m);have U:=Aa F;have N:=Aa m;have i:=Aa h;have S:=Aa b;obtain⟨A,u⟩:∃A,enc t=A:=⟨_,rfl⟩;rw[u]at L i E⊢;have H:=Aa u;obtain⟨n,B⟩:∃n,A.length=n:=⟨_,rfl⟩;rw[B]at i E;have z:=Aa B;have X:=run_make_row' (P:=prog) 32 5 (η 0) 1 υ32 info5b rfl .i64 .i64 n (by omega) (by omega);clear b h m F k u B;go_enter func57,ntmps57;go_wp2_with fail;refine(Kg t x _ (Cl ((Ac _ _).alloc (Ab _) _) t x s.out)).mono ?_;rintro e w1⟨rfl,d⟩;rw[i.out,S.out];rw[show((0:Nat):Int)=0 from rfl];have f:w1.heap[w.heap.size]?=some (.cells #[β x.l,σ x.ba x.bn x.bc,σ x.ia x.m x.ic] 108):=Below.row d (Ak _ _);have Z:=cell_alloc (show w1.cell? ⟨w.heap.size,0,none⟩=some (β x.l)from by rw[Aj _ _ _ _ _ _ f];rfl);have Y:=cell_alloc (show w1.cell? ⟨w.heap.size,1,none⟩=some (σ x.ba x.bn x.bc)from by rw[Aj _ _ _ _ _ _ f];rfl);have y2:=cell_alloc (show w1.cell? ⟨w.heap.size,2,none⟩=some (σ x.ia x.m x.ic)from by rw[Aj _ _ _ _ _ _ f];rfl);have j:Λ w w1:=((Ac w.heap.size w).alloc (Ab _) _).trans (d.mono (by simp));have v:Λ w (w1.alloc (.cells (madeCells #[η 0] n) 5)):=j.alloc j.size _;have C:Row w1.heap.size (w1.alloc (.cells (madeCells #[η 0] n) 5)) (List.replicate n 0):=by
   unfold Row;rw[Ak,made_bytes]
  have r:=Yw t U.out x w1.heap.size n n (List.replicate n 0) w _ s.out v j.size C (by simp) (Ab _) (by omega) N.out (by rw[H.out,z.out];exact Ab _);rw[H.out,z.out,C8,BM,AH,Bx (by simp),A7]at r;have M:=Aa r;have p:=Aa j;have J:=Aa v;clear r C f d j v;go_wp2_with fail;refine M.out.mono ?_;rintro e w2⟨rfl,D,I⟩;have G:=Aa D;have Q:=Aa (Touch.below J.out I p.out.size J.out.size);clear D I;go_wp2_with fail;go_ret2;refine⟨⟨_,_,_,rfl,?_,?_⟩,Q.out⟩
  ·exact row_ag G.out z.out L.out (by omega)
  ·intro g off e _;cases e;exact⟨p.out.size,λo=>AN _ _ _ _ _ G.out⟩
 ·obtain⟨K,h⟩:∃K,(mP t).1=K:=⟨_,rfl⟩;obtain⟨q,l⟩:∃q,(mP t).2=q:=⟨_,rfl⟩;have k:encP t=([],q):=by rw[encP,Ae b,l]
  rw[k];rw[l]at b;have W:((q:Int) !=0)=true:=by rw[BU];omega
  have i:=Aa h;have R:=Aa l;clear h l b k;go_enter func57,ntmps57;go_wp2_with fail;refine(Kg t x _ (Cl ((Ac _ _).alloc (Ab _) _) t x s.out)).mono ?_;rintro e w1⟨rfl,d⟩;rw[i.out,R.out];have p:=Aa (((Ac w.heap.size w).alloc (Ab _) _).trans (d.mono (by simp)));clear d;go_wp2_with fail;go_ret2;exact⟨⟨none,0,0,rfl,⟨.inl ⟨rfl,rfl⟩,λ_=>⟨rfl,rfl⟩,rfl,λx f=>by cases f⟩,λg off e=>by cases e⟩,p.out⟩
theorem L6(w:Γ)(ty:TypeId)(g m dc:Nat)(a:Addr)(e:Nat)(cur:Ξ)(t:TypeId)(cs:List Δ)
 (i:w.heap[g]?=some (.cells cur t (0,0))) (k:cs.length=m*3) (f:∀j v,cs[j]?=some v->w.cell? (a.add j)=some v) (d:cs.length=cur.size) (h:∀v∈cs,v.oneCell'=true):
 (Builtin.copy_ #[106,106] ty #[σ (ζ g 0) m dc,σ (some a) m e]).run prog w= .ok (goInt m) (w.setRow g cs.toArray):=by
 have c:=run_loadCells_list (P:=prog) w a cs f;have b:=run_storeCells_at prog g 0 t cs 0 cur w i (by omega) h;rw[A6,BM,AH,A6,Bx (by simp[d]),A7]at b;rw[k]at c;simp[Builtin.copy_,Bm υ106,Builtin.lenOf,Builtin.firstCells,c,b]
theorem Mp(w:Γ)(ty:TypeId)(g dc:Nat)(a:Ω)(b:Nat)(e:a=none->b=0):
 (Builtin.copy_ #[106,106] ty #[σ (ζ g 0) 0 dc,σ a 0 b]).run prog w= .ok (goInt 0) w:=by
 cases a with
 |none=>
  rw[e rfl];simp[Builtin.copy_,Bm υ106,Builtin.lenOf,Builtin.firstCells,storeCells]
 |some a=>
  have d:=run_loadCells_list (P:=prog) w a [] (λj v h=>by simp at h);have c:(loadCells a 0).run prog w= .ok #[] w:=by simpa using d
  simp[Builtin.copy_,Bm υ106,Builtin.lenOf,Builtin.firstCells,storeCells,c]
theorem T5{w:Γ}{ops:Array Oper}{rest:List Oper}{o:Oper}{a:Act}{Q:Exit->Act->Γ->Prop}(b:o.guard=none)(d x:Operand)
 (e:o.op= .call {callee:= .builtin .copy,args:=#[d,x],argTypes:=#[106,106]}) (v u:Δ) (hd:a.eval d=v) (f:a.eval x=u) {v':Δ} {w':Γ}
 (g:(Builtin.copy_ #[106,106] o.type #[v,u]).run prog w= .ok v' w') (h:wpList prog ops Q rest (a.put o.dst v') w'):wpList prog ops Q (o::rest) a w:=by
 refine wpList_plain b λK c=>?_;unfold Oper.wp;simp[execOp,e,resolve,invoke,builtin,hd,f,g,Result.andThen];exact c _ _ h
theorem Kk{w:Γ}{a:Ω}:∀{ts:List T}{k:Nat},LiesAll w ts a k->∃ys:List V,ys.length=ts.length/\∀i y,ys[i]?=some y->∃g off t,At w a (k+i) t g off y
 |[],k,_=>⟨[],rfl,λi y h=>by simp at h⟩
 |t::r,k,h=>by
  obtain⟨⟨g,off,y,l,e,n,f,m⟩,j⟩:=liesAll_cons.1 h;obtain⟨ys,d,o⟩:=Kk j;refine⟨y::ys,by rw[AE,AE,d],λi z b=>?_⟩;cases i with
  |zero=>
   have:y=z:=(by simpa using b);subst this;exact⟨g,off,t,l,e,n,f,m⟩
  |succ i=>
   obtain⟨g',c,t',A⟩:=o i z (by simpa using b);rw[show k+1+i=k+(i+1)from by omega]at A;exact⟨g',c,t',A⟩
theorem T6{off:Nat}{ys:List V}(h:∀i y,ys[i]?=some y->w.cell? ⟨g,off+i*3,none⟩=some (β y.l)/\w.cell? ⟨g,off+i*3+1,none⟩=some (σ y.ba y.bn y.bc)/\w.cell? ⟨g,off+i*3+2,none⟩=some (σ y.ia y.m y.ic)):
 ∀j v,(ys.flatMap V.cells)[j]?=some v->w.cell? ((⟨g,off,none⟩:Addr).add j)=some v:=by
 intro j v a;rw[BO];have k:=(Ar.1 a).1;rw[Gj]at k;obtain⟨y,c⟩:∃y,ys[j/3]?=some y:=⟨ys[j/3]'(by omega),Ad _⟩;have n:=M9 c;obtain⟨f,l,p⟩:=h (j/3) y c;have d:(ys.take (j/3)).length=j/3:=by rw[Ap];omega
 have m:j%3=0∨j%3=1∨j%3=2:=by omega
 have b:∀u,(V.cells y)[j%3]?=some u->(ys.flatMap V.cells)[j]?=some u:=by
  intro u o;have:=Fj (ys.take (j/3)) y (ys.drop (j/3+1)) (j%3) u o;rw[<-n,d,show j/3*3+j%3=j from by omega]at this;exact this
 rcases m with e|e|e
 ·have:=b (β y.l) (by rw[e];rfl);rw[a]at this;rw[BJ this,show off+j=off+j/3*3 from by omega];exact f
 ·have:=b (σ y.ba y.bn y.bc) (by rw[e];rfl);rw[a]at this;rw[BJ this,show off+j=off+j/3*3+1 from by omega];exact l
 ·have:=b (σ y.ia y.m y.ic) (by rw[e];rfl);rw[a]at this;rw[BJ this,show off+j=off+j/3*3+2 from by omega];exact p
theorem T7(ys:List V):∀v∈ys.flatMap V.cells,v.oneCell'=true:=by
 intro v a;obtain⟨y,_,b⟩:=Cv.1 a;exact JM y v b
theorem VT(a:Ω)(m c:Nat)(ts:List T)(hm:m=ts.length/\m<=c/\c<=maxLen/\m<=140737488351232)(w:Γ)(x:LiesAll w ts a 0)(ab:56*m<=281474976710656)(v:a=none->c=0):
 Calls prog 128 #[σ a m c] w λe w'=>∃ys:List V,ys.length=m/\e=ω (γ #[β true,ε,σ (some ⟨w.heap.size+1,0,none⟩) m m])/\w'.heap[w.heap.size+1]?=some (.cells (ys.flatMap V.cells).toArray 108)/\(∀i y,ys[i]?=some y->∃g off t,At w a i t g off y)/\Λ w w':=by
 obtain⟨D,ad,ac,ae⟩:=hm;obtain⟨ys,B,k⟩:=Kk x;obtain⟨Z,I,H,E,F⟩:=ZV;have G:=λw=>run_make (P:=prog) w 106 108 Z _ υ106 I H .i64 .i64 m m (by omega) (by omega) (by rw[F];omega) (by omega);rw[E,Int.toNat_natCast]at G;obtain⟨w0,f⟩:∃w0,w.alloc (.cells #[β false,ε,ε] 108)=w0:=⟨_,rfl⟩;have C:w0.heap.size=w.heap.size+1:=by rw[<-f];simp
 have p:Λ w w0:=by rw[<-f];exact below_new _ _
 have q:w0.heap[w.heap.size]?=some (.cells #[β false,ε,ε] 108):=by rw[<-f];exact Ak _ _
 obtain⟨MC,s⟩:∃MC,madeCells (γ #[β false,ε,ε]).cells (m*3)=MC:=⟨_,rfl⟩;rw[s]at G;have z:MC.size=m*3:=by rw[<-s,size_madeCells]
 have d:ys.length=m:=by rw[B,D]
 obtain⟨w1,j,n,b,u⟩:∃w1,(∀ty,(Builtin.copy_ #[106,106] ty #[σ (some ⟨w0.heap.size,0,none⟩) m m,σ a m c]).run prog (w0.alloc (.cells MC 108))= .ok (goInt m) w1)/\w1.heap[w0.heap.size]?=some (.cells (ys.flatMap V.cells).toArray 108)/\w1.heap[w.heap.size]?=some (.cells #[β false,ε,ε] 108)/\Λ w0 w1:=by
  by_cases U:m=0
  ·subst U;have O:ys=[]:=Aw d;subst O;have K:MC=#[]:=Array.eq_empty_of_size_eq_zero (by omega);subst K;exact⟨_,λty=>Mp _ ty _ _ a c v,Ak _ _,(Ax _ _ _ (by omega)).trans q,below_new _ _⟩
  ·obtain⟨y0,R⟩:∃y,ys[0]?=some y:=⟨ys[0]'(by omega),Ad _⟩;obtain⟨g,off,t,A⟩:=k 0 y0 R;have ha:=A.ha;subst ha;have r:Λ w (w0.alloc (.cells MC 108)):=p.alloc (by omega) _
   have Q:=T6 (w:=w0.alloc (.cells MC 108)) (g:=g) (off:=off) (ys:=ys) (λi y h=>by
    obtain⟨g',aa,t',l⟩:=k i y h;have S:=l.ha;cases S;have c0:=l.c0;have c1:=l.c1;have c2:=l.c2;rw[A6]at c0 c1 c2;exact⟨AS r c0,AS r c1,AS r c2⟩)
   refine⟨_,λty=>L6 _ ty w0.heap.size m m ⟨g,off,none⟩ c MC 108 (ys.flatMap V.cells) (Ak _ _) (by rw[Gj,d]) Q (by rw[Gj,d,z]) (T7 ys),AC _ _ _ _ _ _ (Ak _ _),?_,?_⟩
   ·rw[Bc _ _ _ _ (by omega)];exact(Ax _ _ _ (by omega)).trans q
   ·exact Touch.below (below_new _ _) (Touch.setRow _ _ _) (Ab _) (by simp)
 rw[C]at j n;rw[<-f]at j;have M:=Aa j;have J:=Aa n;have W:=Aa (below_go p u);have L:=Aa b;have x0:w1.cell? ⟨w.heap.size,0,none⟩=some (β false):=by rw[Aj _ _ _ _ _ _ b];rfl
 have x1:w1.cell? ⟨w.heap.size,1,none⟩=some (ε):=by rw[Aj _ _ _ _ _ _ b];rfl
 have x2:w1.cell? ⟨w.heap.size,2,none⟩=some (ε):=by rw[Aj _ _ _ _ _ _ b];rfl
 have xf:∀o,w1.frozen? ⟨w.heap.size,o,none⟩=false:=λo=>AN _ _ _ _ _ b;have X:=Aa k;have N:=Aa d;clear j n u b f C p q s z x B k D d I H E F v;go_enter func128,ntmps128;go_wp2_with (first|refine T5 rfl _ _ rfl _ _ rfl rfl (M.out _) ?_);have Y:=put3 L.out (β true) (ε) (σ (some ⟨w.heap.size+1,0,none⟩) m m);refine Aq (Be results128 _ _ w.heap.size 108 _ (0,0) _ rfl Y υ108 rfl (by kernel_rfl)) rfl ?_;exact⟨ys,N.out,rfl,(Dk (by omega) _ _ _).trans J.out,λi y h=>by have:=X.out i y h;simpa using this,Ci W.out (Ab _) _ _ _⟩
structure RV where
 k:Int
 d:τ
 a:Ω
 n:Nat
 c:Nat
def RV.cells(x:RV):List Δ:=ι x.k::(x.d.map (Value.int .u8)++[σ x.a x.n x.c])
structure NV where
 k:Int
 pa:Ω
 pn:Nat
 pc:Nat
 va:Ω
 vn:Nat
 vc:Nat
 c:RV
 ka:Ω
 kn:Nat
 kc:Nat
def NV.cells(x:NV):List Δ:=ι x.k::σ x.pa x.pn x.pc::σ x.va x.vn x.vc::(x.c.cells++[σ x.ka x.kn x.kc])
def AgK(K:Θ)(w:Γ)(a:Ω)(n c:Nat)(bs:τ):Prop:=Ag w a n c bs/\n<=140737488351232/\∀g off,a=some ⟨g,off,none⟩->0<n->K g
def RefAt(K:Θ)(w:Γ)(x:RV)(r:PR):Prop:=x.k=r.k/\x.d=r.d/\isB r.d/\r.d.length=32/\AgK K w x.a x.n x.c r.i
def KidsAt(K:Θ)(w:Γ)(a:Ω)(ks:List PR):Prop:=∀j r,ks[j]?=some r->∃g off y,a=some ⟨g,off,none⟩/\K g/\w.rangeAt g (off+j*34) y.cells/\RefAt K w y r
structure NodeAt(K:Θ)(w:Γ)(x:NV)(n:PN):Prop where
 k:x.k=n.k
 p:AgK K w x.pa x.pn x.pc n.p
 v:AgK K w x.va x.vn x.vc n.v
 c:RefAt K w x.c n.c
 m:x.kn=n.ks.length/\x.kn<=x.kc/\x.kc<=maxLen/\x.kn<=2199023255488/\(x.ka=none->x.kn=0/\x.kc=0)
 ks:KidsAt K w x.ka n.ks
theorem RV.len{x:RV}(h:x.d.length=32):x.cells.length=34:=by simp[RV.cells,h]
theorem NV.len{x:NV}(h:x.c.d.length=32):x.cells.length=38:=by simp[NV.cells,RV.len h]
theorem RV.one(x:RV):∀u∈x.cells,u.oneCell'=true:=by
 intro u a;simp only[RV.cells,Ay,AP,BC,BN,Dn]at a;rcases a with rfl|⟨y,_,rfl⟩|rfl<;>rfl
theorem NV.one(x:NV):∀u∈x.cells,u.oneCell'=true:=by
 intro u a;simp only[NV.cells,Ay,AP,BN,Dn]at a;rcases a with rfl|rfl|rfl|a|rfl
 ·rfl
 ·rfl
 ·rfl
 ·exact x.c.one u a
 ·rfl
theorem T9{v:Δ}(h:w.cell? ⟨g,o,none⟩=some v)(a:g<w.heap.size->w'.heap[g]?=w.heap[g]?):w'.cell? ⟨g,o,none⟩=some v:=(Av (w:=w) (a (Al h))).trans h
def Keep(K L:Θ)(w w':Γ):Prop:=∀g,K g->g<w.heap.size->w'.heap[g]?=w.heap[g]?/\L g
theorem AgK.go(d:Keep K L w w'){bs:τ}(h:AgK K w a n c bs):AgK L w' a n c bs:=by
 refine⟨NM h.1 (λg off e b i=>(d g (h.2.2 g off e b) i).1),h.2.1,λg off e b=>?_⟩;obtain⟨g',k,f,_,_,j⟩:=ag_head h.1 b;rw[e]at f;cases f;exact(d g (h.2.2 g off e b) (Al (j 0 b))).2
theorem RefAt.go(a:Keep K L w w'){x:RV}(h:RefAt K w x r):RefAt L w' x r:=⟨h.1,h.2.1,h.2.2.1,h.2.2.2.1,h.2.2.2.2.go a⟩
theorem RefAt.len{x:RV}(h:RefAt K w x r):x.d.length=32:=by rw[h.2.1];exact h.2.2.2.1
theorem EH(h:w.rangeAt g o cs)(b:g<w.heap.size->w'.heap[g]?=w.heap[g]?):w'.rangeAt g o cs:=λj v a=>T9 (h j v a) b
theorem VU(h:w.rangeAt g o cs)(a:0<cs.length):g<w.heap.size:=Al (h 0 _ (Ad a))
theorem KidsAt.go(b:Keep K L w w'){f:List PR}(h:KidsAt K w a f):KidsAt L w' a f:=λj r l=>by
 obtain⟨g,off,y,e,i,k,d⟩:=h j r l;have c:=VU k (by rw[RV.len d.len];omega);exact⟨g,off,y,e,(b g i c).2,EH k (λc=>(b g i c).1),d.go b⟩
theorem NodeAt.go(a:Keep K L w w'){x:NV}{n:PN}(h:NodeAt K w x n):NodeAt L w' x n:=⟨h.k,h.p.go a,h.v.go a,h.c.go a,h.m,h.ks.go a⟩
theorem Keep.below(h:Λ w w'):Keep K K w w':=λg a b=>⟨h.block g b,a⟩
theorem Keep.any(h:Λ w w'):Keep K (λ_=>True) w w':=λg b a=>⟨h.block g a,trivial⟩
def Own(base:Nat)(w:Γ)(g:Nat):Prop:=base<=g/\∀o,w.frozen? ⟨g,o,none⟩=false
theorem Keep.own{base base':Nat}(h:Λ w w')(c:base'<=base):Keep (Own base w) (Own base' w') w w':=λg a b=>⟨h.block g b,Au c a.1,λo=>(Cb (w:=w) (h.block g b)).trans (a.2 o)⟩
theorem AgK.l{bs:τ}(h:AgK K w a n c bs):bs.length=n:=h.1.l
theorem NodeAt.okN{x:NV}{n:PN}(h:NodeAt K w x n):okN n:=by
 refine⟨h.p.1.b,h.v.1.b,⟨h.c.2.2.1,h.c.2.2.2.1,h.c.2.2.2.2.1.b⟩,λr c=>?_⟩;obtain⟨j,b⟩:=List.getElem?_of_mem c;obtain⟨_,_,y,_,_,_,a⟩:=h.ks j r b;exact⟨a.2.2.1,a.2.2.2.1,a.2.2.2.2.1.b⟩
structure NBx(g:Nat)(v:Γ)(x:NV):Prop where
 row:v.heap[g]?=some (.cells x.cells.toArray 121)
 l:x.c.d.length=32
structure RBx(g:Nat)(v:Γ)(x:RV):Prop where
 row:v.heap[g]?=some (.cells x.cells.toArray 118)
 l:x.d.length=32
theorem NBx.at{v:Γ}{x:NV}(h:NBx g v x)(j:Nat):v.cell? ⟨g,j,none⟩=x.cells[j]?:=by rw[Aj _ _ _ _ _ _ h.row];simp
theorem RBx.at{v:Γ}{x:RV}(h:RBx g v x)(j:Nat):v.cell? ⟨g,j,none⟩=x.cells[j]?:=by rw[Aj _ _ _ _ _ _ h.row];simp
theorem NBx.c0{v:Γ}{x:NV}(h:NBx g v x):v.cell? ⟨g,0,none⟩=some (ι x.k):=h.at 0
theorem NBx.c1{v:Γ}{x:NV}(h:NBx g v x):v.cell? ⟨g,1,none⟩=some (σ x.pa x.pn x.pc):=h.at 1
theorem NBx.c2{v:Γ}{x:NV}(h:NBx g v x):v.cell? ⟨g,2,none⟩=some (σ x.va x.vn x.vc):=h.at 2
theorem NBx.c3{v:Γ}{x:NV}(h:NBx g v x):v.cell? ⟨g,3,none⟩=some (ι x.c.k):=h.at 3
theorem RV.last{x:RV}(h:x.d.length=32):x.cells[33]?=some (σ x.a x.n x.c):=by
 rw[RV.cells,Ch,Bn (by simp[h])];simp[h]
theorem NBx.c37{v:Γ}{x:NV}(h:NBx g v x):v.cell? ⟨g,37,none⟩=some (σ x.ka x.kn x.kc):=by
 rw[h.at 37,NV.cells,Ch,Ch,Ch,Bn (by rw[RV.len h.l];omega),RV.len h.l];rfl
theorem NBx.fz{v:Γ}{x:NV}(h:NBx g v x)(o:Nat):v.frozen? ⟨g,o,none⟩=false:=AN _ _ _ _ _ h.row
theorem NBx.child{v:Γ}{x:NV}(h:NBx g v x):v.rangeAt g 3 x.c.cells:=λj u a=>by
 rw[h.at,NV.cells,Nat.add_comm 3 j,Ch,Ch,Ch,Bg (Ar.1 a).1];exact a
theorem NBx.all{v:Γ}{x:NV}(h:NBx g v x):v.rangeAt g 0 x.cells:=λj u a=>by rw[h.at,A6];exact a
theorem RBx.all{v:Γ}{x:RV}(h:RBx g v x):v.rangeAt g 0 x.cells:=λj u a=>by rw[h.at,A6];exact a
theorem RBx.c0{v:Γ}{x:RV}(h:RBx g v x):v.cell? ⟨g,0,none⟩=some (ι x.k):=h.at 0
theorem RBx.c33{v:Γ}{x:RV}(h:RBx g v x):v.cell? ⟨g,33,none⟩=some (σ x.a x.n x.c):=by rw[h.at];exact RV.last h.l
theorem RBx.fz{v:Γ}{x:RV}(h:RBx g v x)(o:Nat):v.frozen? ⟨g,o,none⟩=false:=AN _ _ _ _ _ h.row
theorem RBx.digest{v:Γ}{x:RV}(h:RBx g v x):v.rangeAt g 1 (x.d.map (Value.int .u8)):=λj u a=>by
 rw[h.at,RV.cells,Nat.add_comm 1 j,Ch,Bg (Ar.1 a).1];exact a
theorem NBx.go{v:Γ}{x:NV}(h:NBx g v x)(a:Λ v v'):NBx g v' x:=⟨Below.row a h.row,h.l⟩
theorem RBx.go{v:Γ}{x:RV}(h:RBx g v x)(a:Λ v v'):RBx g v' x:=⟨Below.row a h.row,h.l⟩
theorem EC(w:Γ)(x:NV)(h:x.c.d.length=32):NBx w.heap.size (w.alloc (.cells x.cells.toArray 121)) x:=⟨Ak _ _,h⟩
theorem Jp(w:Γ)(x:RV)(h:x.d.length=32):RBx w.heap.size (w.alloc (.cells x.cells.toArray 118)) x:=⟨Ak _ _,h⟩
theorem I0:(prog.info? 121).map (·.size)=some 38:=by kernel_rfl
theorem EW:(prog.info? 118).map (·.size)=some 34:=by kernel_rfl
theorem VV:(prog.info? 44).map (·.size)=some 32:=by kernel_rfl
def rz:RV:=⟨0,z32,none,0,0⟩
def nz:NV:=⟨0,none,0,0,none,0,0,rz,none,0,0⟩
def DPost(w:Γ)(o:Option PN):Ending->Γ->Prop:=λe w'=>Λ w w'/\
 match o with
 |none=>e=ω (θ #[γ nz.cells.toArray,ι 50])
 |some n=>∃y:NV,e=ω (θ #[γ y.cells.toArray,ι 0])/\NodeAt (Own w.heap.size w') w' y n
def DecSaid(b:τ):Prop:=∀(a:Ω)(n c:Nat)(w:Γ),Ag w a n c b->n<=140737488351232->Calls prog 72 #[σ a n c] w (DPost w (ND b))
theorem Y4{o:Option PN}{e:Ending}(h:DPost w o e w'):Λ w w'/\∃y:NV,∃d:Int,e=ω (θ #[γ y.cells.toArray,ι d])/\y.k=kd o/\y.c.d.length=32:=by
 obtain⟨f,a⟩:=h;refine⟨f,?_⟩;cases o with
 |none=>exact⟨nz,50,a,rfl,rfl⟩
 |some n=>
  obtain⟨y,c,b⟩:=a;exact⟨y,0,c,b.k,b.c.len⟩
theorem Below.setRow{B:Nat}(h:Below B w0 w)(a:B<=g)(cs:Ξ):Below B w0 (w.setRow g cs):=
 h.trans ⟨rfl,rfl,rfl,by simp,λk b=>Bc w g k cs (by omega)⟩
theorem VW:(nz.cells.toArray:Ξ).size=38:=rfl
theorem GO(K:Θ)(x:RV)(r:PR)(w:Γ)(h:RefAt K w x r)(hd:DecSaid r.i):
 Calls prog 155 #[γ x.cells.toArray] w λe w'=>e=ω (ι (KD r.i))/\Λ w w':=by
 have B:=Jp w x h.len;have a:=Aa (below_new w (.cells x.cells.toArray 118));have HD:=Aa (show∀v,Λ w v->Calls prog 72 #[σ x.a x.n x.c] v (DPost v (ND r.i))from λv u=>hd _ _ _ v (h.2.2.2.2.1.at u) h.2.2.2.2.2.1);obtain⟨i,f⟩:∃i,KD r.i=i:=⟨_,rfl⟩;have l:=Aa (show kd (ND r.i)=i from f);rw[f];clear h hd f;go_enter func155,ntmps155;go_upto_region 1 with fail;refine gen_w (p:=λv=>Code.wp _ _ _ _ v) (q:=λv=>RBx w.heap.size v x/\Λ w v) ⟨B,a.out⟩ ?_;clear B a;rintro v⟨B,b⟩;have a:=Aa b;have c0:=B.c33;clear b B;go_wp2_with fail;refine(HD.out v a.out).mono ?_;intro e w1 k;obtain⟨j,y,C,rfl,g,c⟩:=Y4 k;rw[l.out]at g;have d:=Aa (below_go a.out j);have t:=Aa (show(nz.cells.toArray:Ξ).size=y.cells.toArray.size from by rw[VW,Ba,NV.len c]);have z:=Aa (show(prog.info? 121).map (·.size)=some y.cells.toArray.size from by rw[I0,Ba,NV.len c]);have s:=Aa (Am y.one);have m:=Aa g;have n:=Aa c;clear k j g c HD l a c0;go_upto_region 2 with(first|refine A5 rfl 121 _ _ rfl _ y.cells.toArray rfl rfl 121 _ (Ak w1 _) z.out t.out s.out ?_);refine gen_w (p:=λv=>Code.wp _ _ _ _ v) (q:=λv=>NBx w1.heap.size v y/\Λ w v) ⟨⟨AC _ _ _ _ _ _ (Ak w1 _),n.out⟩,Below.setRow (d.out.alloc d.out.size _) d.out.size _⟩ ?_;rintro A⟨B,b⟩;have c0:=B.c0;rw[m.out]at c0;have o:=Aa b;clear B b;go_wp2_with fail;go_ret;exact⟨rfl,o.out⟩
def B8(bs:τ):Ξ:=(bs.map (Value.int .u8)).toArray
theorem B8_size(bs:τ):(B8 bs).size=bs.length:=by simp[B8]
theorem B8_get(bs:τ)(k:Nat)(h:k<bs.length):(B8 bs)[k]?=some (η (bs.getD k 0)):=by simp[B8,h]
theorem Sg(xs ys:τ)(u:xs.length=32)(p:ys.length=32)(d:Nat):∀(n k:Nat)(w:Γ),k+n=32->
 (forIn (m:=Sem) (List.range' k n) ((none:Option Bool),()) λi _=>do
   let a <-part 5 (B8 xs) (i*1)
   let b <-part 5 (B8 ys) (i*1)
   let r <-Op.equalIn (d+1) 5 a b
   if(!r)=true then pure (ForInStep.done (some false,()))else pure (ForInStep.yield (none,()))).run prog w=
   .ok (if xs.drop k==ys.drop k then(none,())else(some false,())) w
 |0,k,w,g=>by
  have h:xs.drop k=[]:=BL (by omega);have t:ys.drop k=[]:=BL (by omega);rw[h,t];simp
 |n+1,k,w,g=>by
  have l:=Sg xs ys u p d n (k+1) w (by omega);have c:k<xs.length:=by omega
  have e:k<ys.length:=by omega
  have j:(part 5 (B8 xs) (k*1)).run prog w= .ok (η (xs.getD k 0)) w:=by
   simp only[part,AO,isAgg,Bm υ5,A4,AV,BG,Dm,BE,B8_get xs k c]
  have q:(part 5 (B8 ys) (k*1)).run prog w= .ok (η (ys.getD k 0)) w:=by
   simp only[part,AO,isAgg,Bm υ5,A4,AV,BG,Dm,BE,B8_get ys k e]
  have o:=run_equalIn_int w d 5 .u8 .u8 (xs.getD k 0) (ys.getD k 0) (P:=prog) υ5;have s:xs.drop k=xs.getD k 0::xs.drop (k+1):=by rw[Bv c];simp[List.getD,Ad c]
  have f:ys.drop k=ys.getD k 0::ys.drop (k+1):=by rw[Bv e];simp[List.getD,Ad e]
  rw[List.range'_succ,List.forIn_cons];simp only[AO,j,q,o,A4];rw[s,f,List.cons_beq_cons];cases v:(xs.getD k 0==ys.getD k 0)with
  |false=>simp
  |true=>
   simp only[Bool.not_true,BG,Dm,AV,A4,Du];exact l
theorem Xay(xs ys:τ)(g:xs.length=32)(f:ys.length=32)(d:Nat)(w:Γ):
 (Op.equalIn (d+1+1) 44 (γ (B8 xs)) (γ (B8 ys))).run prog w= .ok (xs==ys) w:=by
 have b:(prog.info? 5).map (·.size)=some 1:=by kernel_rfl
 cases a:prog.info? 5 with
 |none=>simp[a]at b
 |some y=>
  have c:y.size=1:=by simpa[a]using b
  rw[Op.equalIn];simp only[AO,Bm υ44,A4,sizeOf,typeInfo,run_program,a,c,AV];have e:=Sg xs ys g f d 32 0 w (by omega);rw[Std.Legacy.Range.forIn_eq_forIn_range'];simp only[Std.Legacy.Range.size,C1]at e⊢;rw[show(32-0+1-1)/1=32 from rfl];rw[e];cases xs==ys<;>simp
theorem Xbp(xs ys:τ)(b:xs.length=32)(a:ys.length=32)(w:Γ):(Op.equalIn 10000 44 (γ (B8 xs)) (γ (B8 ys))).run prog w= .ok (xs==ys) w:=Xay xs ys b a 9998 w
section
variable {w : World} {ops : Array Oper} {rest : List Oper} {o : Oper} {a : Act} {Q : Exit → Act → World → Prop}
theorem L7(c:Region.wanted o (yielded ops a.tmps)=true)(h:∀K:Act->Γ->Prop,(∀a w,wpList prog ops Q rest a w->K a w)->o.wp prog a w K Q):wpList prog ops Q (o::rest) a w:=
 wpList_step λK b=>by rw[Ai c];exact h K b
theorem G3(b:Region.wanted o (yielded ops a.tmps)=true)(x y:Operand)(d:o.op= .binOp .eql 44 x y 44)(xs ys:τ)(k:a.eval x=γ (B8 xs))(g:a.eval y=γ (B8 ys))(c:xs.length=32)(j:ys.length=32)(q:Bool)(f:(xs==ys)=q)
 (h:wpList prog ops Q rest (a.put o.dst (β q)) w):wpList prog ops Q (o::rest) a w:=by
 subst f;refine L7 b λK i=>?_;have e:=Xbp xs ys c j;unfold Oper.wp execOp;simp only[d,k,g];go_simp;exact i _ _ h
theorem G4(b:Region.wanted o (yielded ops a.tmps)=true)(x y:Operand)(d:o.op= .binOp .neq 44 x y 44)(xs ys:τ)(k:a.eval x=γ (B8 xs))(g:a.eval y=γ (B8 ys))(c:xs.length=32)(j:ys.length=32)(q:Bool)(f:(!(xs==ys))=q)
 (h:wpList prog ops Q rest (a.put o.dst (β q)) w):wpList prog ops Q (o::rest) a w:=by
 subst f;refine L7 b λK i=>?_;have e:=Xbp xs ys c j;unfold Oper.wp execOp;simp only[d,k,g];go_simp;exact i _ _ h
theorem L8(c:Region.wanted o (yielded ops a.tmps)=true)(ty:TypeId)(x:Operand)(e:o.op= .load ty x)(b off:Nat)(k:a.eval x=ψ b off)(cs:List Δ)(d:TypeDesc)(i:w.rangeAt b off cs)
 (g:prog.underlying ty=some d) (hd:d.isRow=true) (j:(prog.info? ty).map (·.size)=some cs.length) (h:wpList prog ops Q rest (a.put o.dst (γ cs.toArray)) w):wpList prog ops Q (o::rest) a w:=
 L7 c λ_ f=>wp_load_mid ty x e b off k cs d i g hd j (f _ _ h)
theorem CC(d:Region.wanted o (yielded ops a.tmps)=true)(x:Operand)(e:o.op= .load 121 x)(b:Nat)(f:a.eval x=π b)(y:NV)(c:NBx b w y)
 (h:wpList prog ops Q rest (a.put o.dst (γ y.cells.toArray)) w):wpList prog ops Q (o::rest) a w:=
 L8 d 121 x e b 0 f y.cells _ c.all υ121 rfl (by rw[I0,NV.len c.l]) h
theorem C3(c:Region.wanted o (yielded ops a.tmps)=true)(x:Operand)(d:o.op= .load 118 x)(b off:Nat)(g:a.eval x=ψ b off)(y:RV)(f:y.d.length=32)(e:w.rangeAt b off y.cells)
 (h:wpList prog ops Q rest (a.put o.dst (γ y.cells.toArray)) w):wpList prog ops Q (o::rest) a w:=
 L8 c 118 x d b off g y.cells _ e υ118 rfl (by rw[EW,RV.len f]) h
theorem E5(c:Region.wanted o (yielded ops a.tmps)=true)(x:Operand)(d:o.op= .load 44 x)(b off:Nat)(g:a.eval x=ψ b off)(ds:τ)(f:ds.length=32)(e:w.rangeAt b off (ds.map (Value.int .u8)))
 (h:wpList prog ops Q rest (a.put o.dst (γ (B8 ds))) w):wpList prog ops Q (o::rest) a w:=
 L8 c 44 x d b off g (ds.map (Value.int .u8)) _ e υ44 rfl (by rw[VV,AQ,f]) h
end
theorem TB:(λ(a:Ω)(n c:Nat)=>prog.built 118 [(0,ι 1),(2,σ a n c)])=λa n c=>some (RV.cells ⟨1,z32,a,n,c⟩).toArray:=by kernel_rfl
theorem VX(a:Ω)(n c:Nat):prog.built 118 [(0,ι 1),(2,σ a n c)]=some (RV.cells ⟨1,z32,a,n,c⟩).toArray:=AK (AK (AK TB a) n) c
theorem TC:(λ(b:Ω)(d pc:Nat)(e:Ω)(a c:Nat)=>prog.built 121 [(0,ι 1),(1,σ b d pc),(2,σ e a c)])=λb d pc e a c=>some (NV.cells ⟨1,b,d,pc,e,a,c,rz,none,0,0⟩).toArray:=by kernel_rfl
theorem GP(b:Ω)(d pc:Nat)(e:Ω)(a c:Nat):prog.built 121 [(0,ι 1),(1,σ b d pc),(2,σ e a c)]=some (NV.cells ⟨1,b,d,pc,e,a,c,rz,none,0,0⟩).toArray:=AK (AK (AK (AK (AK (AK TC b) d) pc) e) a) c
theorem TD:(λ(e:Ω)(a d:Nat)(c:Ω)(kn b:Nat)=>prog.built 121 [(0,ι 3),(2,σ e a d),(4,σ c kn b)])=λe a d c kn b=>some (NV.cells ⟨3,none,0,0,e,a,d,rz,c,kn,b⟩).toArray:=by kernel_rfl
theorem OZ(e:Ω)(a d:Nat)(c:Ω)(kn b:Nat):prog.built 121 [(0,ι 3),(2,σ e a d),(4,σ c kn b)]=some (NV.cells ⟨3,none,0,0,e,a,d,rz,c,kn,b⟩).toArray:=AK (AK (AK (AK (AK (AK TD e) a) d) c) kn) b
theorem TE:(λ(J:Ω)(F pc:Nat)(k:Int)(a:Ω)(n c:Nat)(d0 C A B I G E D H K y q j g b z u v h l e f d s w p t r m x i o:Int)=>prog.built 121 [(0,ι 2),(1,σ J F pc),(3,γ (RV.cells ⟨k,[d0,C,A,B,I,G,E,D,H,K,y,q,j,g,b,z,u,v,h,l,e,f,d,s,w,p,t,r,m,x,i,o],a,n,c⟩).toArray)])=
 λJ F pc k a n c d0 C A B I G E D H K y q j g b z u v h l e f d s w p t r m x i o=>some (NV.cells ⟨2,J,F,pc,none,0,0,⟨k,[d0,C,A,B,I,G,E,D,H,K,y,q,j,g,b,z,u,v,h,l,e,f,d,s,w,p,t,r,m,x,i,o],a,n,c⟩,none,0,0⟩).toArray:=by kernel_rfl
theorem Gm(b:Ω)(f pc:Nat)(r:RV)(h:r.d.length=32):prog.built 121 [(0,ι 2),(1,σ b f pc),(3,γ r.cells.toArray)]=some (NV.cells ⟨2,b,f,pc,none,0,0,r,none,0,0⟩).toArray:=by
 obtain⟨k,d,a,n,c⟩:=r
 match d,h with
 |[d0,d1,d2,d3,d4,d5,d6,d7,d8,d9,d10,d11,d12,d13,d14,d15,d16,d17,d18,d19,d20,d21,d22,d23,d24,d25,d26,d27,d28,d29,d30,d31],_=>
  have e:=TE;have e:=AK e b;have e:=AK e f;have e:=AK e pc;have e:=AK e k;have e:=AK e a;have e:=AK e n;have e:=AK e c;have e:=AK e d0;have e:=AK e d1;have e:=AK e d2;have e:=AK e d3;have e:=AK e d4;have e:=AK e d5;have e:=AK e d6;have e:=AK e d7;have e:=AK e d8;have e:=AK e d9;have e:=AK e d10;have e:=AK e d11;have e:=AK e d12;have e:=AK e d13;have e:=AK e d14;have e:=AK e d15;have e:=AK e d16;have e:=AK e d17;have e:=AK e d18;have e:=AK e d19;have e:=AK e d20;have e:=AK e d21;have e:=AK e d22;have e:=AK e d23;have e:=AK e d24;have e:=AK e d25;have e:=AK e d26;have e:=AK e d27;have e:=AK e d28;have e:=AK e d29;have e:=AK e d30;have e:=AK e d31;exact e
end
end Go.Proofs.YtkdlocloepbmcaaGreat
