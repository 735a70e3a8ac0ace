/- Paths and values in rows of the document's own type. -/
import Derived.Test.YtkdlocloepbmcaaGreatG10
import Derived.Deep.DeepAppendWide
set_option linter.unusedVariables false
set_option linter.unusedSimpArgs false
set_option maxRecDepth 100000
set_option maxHeartbeats 8000000
open Go.Proofs.Tryz Go.RowKit
namespace Go.Proofs.YtkdlocloepbmcaaGreat
section
open Tr
variable {X K : Nat → Prop} {w w' : World} {base c n : Nat} {a : Option Addr} {k : List Int} {vs : List (Value × Value)}
def OwnN(X:Θ)(w:Γ)(base:Nat)(v:Δ)(l:PList):Prop:=(∀b,base<=b->X b)/\∃vs:List (Δ×Δ),vs.length=l.length/\w.ownsRow base 97 2 v l.length (flatP vs)/\∀(j:Nat)(p:Δ×Δ)(e:τ×τ),vs[j]?=some p->l[j]?=some e->Gp2 (λb=>v.ownBlock≠some b/\X b) w p e
theorem OwnN.pat{v:Δ}{l:PList}(h:OwnN X w base v l):∃a c vs,v=σ a l.length c/\PAt X w a l.length c vs l:=by
 obtain⟨y,vs,i,⟨C,t⟩,m⟩:=h;rcases t with⟨rfl,n⟩|⟨g,cap,cur,rfl,r,z,s,A,B,q⟩
 ·refine⟨none,0,vs,by rw[n],i,rfl,by omega,λ_=>⟨n,rfl⟩,λj u b=>?_,λj p e f k=>(m j p e f k).mono (λ_ h=>h.2),λx d=>by cases d⟩;have:vs=[]:=Aw (by omega);subst this;simp[flatP]at b
 ·refine⟨some ⟨g,0,none⟩,cap,vs,rfl,i,rfl,s,(λe=>by cases e),λj u b=>⟨g,0,rfl,?_⟩,λj p e f k=>(m j p e f k).mono (λ_ h=>h.2),λx d _=>by cases d;exact y _ r⟩;rw[Aj _ _ _ _ _ _ z,A6];have o:j<(flatP vs).length:=(Ar.1 b).1;rw[El,i]at o;rw[<-q,AT (by omega)]at b;rw[<-BB];exact b
theorem XaB:∃i,prog.info? 97=some i/\i.zero=some (γ #[ε,ε])/\i.size=2/\i.bytes=48:=by
 have h:(prog.info? 97).map (λi=>(i.zero,i.size,i.bytes))=some (some (γ #[ε,ε]),2,48):=by kernel_rfl
 cases a:prog.info? 97 with
 |none=>rw[a]at h;simp at h
 |some i=>rw[a]at h;simp at h;exact⟨i,rfl,h.1,h.2.1,h.2.2⟩
theorem OwnN.far{v:Δ}{l:PList}(h:OwnN X w base v l)(b:Λ w w'):OwnN X w' base v l:=by
 obtain⟨o,vs,m,⟨d,n⟩,f⟩:=h;refine⟨o,vs,m,⟨d,?_⟩,λj p e k r=>(f j p e k r).go b⟩;rcases n with q|⟨g,cap,cur,c,s,a,i⟩
 ·exact .inl q
 ·exact .inr ⟨g,cap,cur,c,s,(b.block g (lt_of_get a)).trans a,i⟩
theorem OwnN.own{v:Δ}{l:PList}(h:OwnN X w base v l):∀k,v.ownBlock=some k->base<=k/\k<w.heap.size:=by
 obtain⟨m,vs,j,⟨f,d⟩,i⟩:=h;intro k a;rcases d with⟨rfl,_⟩|⟨g,cap,cur,rfl,b,c,_⟩
 ·cases a
 ·have e:g=k:=by simpa[Value.ownBlock]using a
  subst e;exact⟨b,lt_of_get c⟩
theorem XaC{v:Δ}{l:PList}(t:OwnN X w base v l){m:Nat}{vs':List (Δ×Δ)}{l':PList}(h:PAt K w a m c vs' l')(hK:∀b,K b->v.ownBlock≠some b/\X b)(aa:l.length+m<=2900000000000)(C:base<=w.heap.size):
 ∃v' w',(∀ty,(Builtin.append_ #[60,60] ty #[v,σ a m c]).run prog w= .ok v' w')/\OwnN X w' base v' (l++l')/\Below base w w':=by
 obtain⟨i,L,hz,S,U⟩:=XaB;have T:=t.own;obtain⟨Z,vs,J,I,h4⟩:=id t;cases a with
 |none=>
  obtain⟨rfl,rfl⟩:=h.nil rfl;have V:l'=[]:=Aw h.ll;subst V;exact⟨v,w,λty=>run_append_owned_none w base 60 ty 97 i 2 υ60 L v _ _ I,by rw[A7];exact t,Ac _ _⟩
 |some ad=>
  have hc:∀j u,(flatP vs')[j]?=some u->w.cell? (ad.add j)=some u:=by
   intro j u o;obtain⟨g,off,e1,e2⟩:=h.row j u o;cases e1;rw[BO];exact e2
  have Q:∀u∈flatP vs',u.oneCell'=true:=by
   intro u hu;obtain⟨p,hp,F⟩:=Cv.1 hu;obtain⟨j,o,e⟩:=Ez.1 hp;have R:j<l'.length:=(by rw[h.ll,<-h.vl];exact o);obtain⟨N,O,c1,M,P,c2,d,f,_,_⟩:=h.gd j p l'[j] (by rw[Ad o,e]) (Ad R);simp at F;rcases F with q|q
   ·rw[q,d];rfl
   ·rw[q,f];rfl
  obtain⟨v',w',W,r2,G,_,r5⟩:=run_append_own_at w base 60 0 97 i _ 2 48 υ60 L hz S U rfl (by decide) v l.length (flatP vs) I ad m c (flatP vs') (by rw[El,h.vl]) hc Q (by unfold maxLen;omega) (by omega) C;have D:∀{K':Θ}{p:Δ×Δ}{e:τ×τ},(∀b,K' b->v.ownBlock≠some b/\X b)->Gp2 K' w p e->Gp2 (λb=>v'.ownBlock≠some b/\X b) w' p e:=by
   intro K' p e y hg;obtain⟨N,O,c1,M,P,c2,d,f,s,z⟩:=hg;have E:∀{a:Ω}{n c:Nat}{bs:τ},Sk K' w a n c bs->Sk (λb=>v'.ownBlock≠some b/\X b) w' a n c bs:=by
    intro a n c bs r;refine⟨⟨?_,r.ag.nil,r.ag.l,r.ag.b⟩,λx A B=>?_⟩
    ·rcases r.ag.i with q|⟨gb,off,d,f,s,z,q5,H⟩
     ·exact .inl q
     ·refine .inr ⟨gb,off,d,f,s,z,q5,λj o=>?_⟩;rw[<-H j o];exact Av (G.block gb (Al (H j o)) (λe=>(y _ (r.k _ d s)).1 e.symm))
    ·refine⟨?_,(y _ (r.k x A B)).2⟩;rcases r5 with q|q
     ·rw[q];exact(y _ (r.k x A B)).1
     ·rw[q];intro e;have:=r.old A B;simp at e;omega
   exact⟨N,O,c1,M,P,c2,d,f,E s,E z⟩
  refine⟨v',w',λty=>W,⟨Z,vs++vs',by simp[J,h.vl,h.ll],?_,?_⟩,?_⟩
  ·rw[Af,h.ll,MP];exact r2
  ·intro j p e d f;by_cases o:j<vs.length
   ·rw[Bg o]at d;rw[Bg (by omega)]at f;exact D (λb Y=>Y) (h4 j p e d f)
   ·rw[Bn (by omega)]at d;rw[Bn (by omega),<-J]at f;exact D hK (h.gd _ p e d f)
  ·exact(Ac _ _).grown G C (λk hk=>(T k hk).1)
theorem PAt.oneN{g:Nat}{a':Ω}{n' c':Nat}{x:τ}(h:New w w' g #[σ a n c,σ a' n' c'] 97)(m:Sk K w a n c k)(l:Sk K w a' n' c' x)(i:K g):PAt K w' (ζ g 0) 1 1 [(σ a n c,σ a' n' c')] [(k,x)]:=by
 refine⟨rfl,rfl,Ab _,(λe=>by cases e),λj u b=>⟨g,0,rfl,?_⟩,(λj p e d f=>?_),λx o _=>by cases o;exact i⟩
 ·rw[Aj _ _ _ _ _ _ h.row,A6]
  match j,b with
  |0,b=>exact b
  |1,b=>exact b
  |j+2,b=>simp[flatP]at b
 ·match j,d,f with
  |0,d,f=>
   simp at d f;subst d f;exact⟨a,n,c,a',n',c',rfl,rfl,m.go h.below,l.go h.below⟩
  |j+1,d,_=>simp at d
theorem OwnN.nil(a:∀b,w.heap.size<=b->X b):OwnN X w w.heap.size (ε) []:=⟨a,[],rfl,⟨rfl, .inl ⟨rfl,rfl⟩⟩,λj p e h=>by simp at h⟩
theorem LN{w w':Γ}{v u r:Δ}{ρ:Φ}{o:Oper}(d:∀ty,(Builtin.append_ #[60,60] ty #[v,u]).run prog w= .ok r w')(x y:Operand)(c:o.op= .call {callee:= .builtin .append,args:=#[x,y],argTypes:=#[60,60]})(b:ρ x=v)(a:ρ y=u):(execOp ρ o).run prog w= .ok (.value r) w':=by
 unfold execOp;simp only[c,resolve,invoke,builtin,AO,AV,A4,BT,Bd,BY,b,a,d]
theorem YV(h:Sk K w a n c k)(o:n<=1000000):
 κ 52 #[σ a n c] w λu w'=>(∃a' f c',u=σ a' f c'/\Sk (λb=>w.heap.size<=b) w' a' f c' (Ni.nib k))/\Bl w w':=
 (Ni.rof_any a n c k w h.ag (by omega)).mono (λe w'⟨⟨a',c',j,r,p,d,l⟩,m⟩=>⟨_,j,⟨a',_,c',rfl,⟨d,λx i o=>by
   rcases d.i with⟨q,_⟩|⟨g,off,q,_⟩
   ·omega
   ·rw[q]at i;cases i;exact l (by omega) g off q⟩⟩,m⟩)
theorem I4{α β:Type}(f:α->β)(l:List α)(j:Nat)(e:α)(h:l[j]?=some e):(l.take (j+1)).map f=(l.take j).map f++[f e]:=by
 rw[BP,h,Bp];rfl
theorem W3{l:PList}(M:PAt K w a n c vs l)(i:n<=2600000000000)(P:∀(j:Nat) k x,l[j]?=some (k,x)->k.length<=1000000):
 κ 22 #[σ a n c] w λu w'=>(λu w'=>(∃a' o c' vs',u=σ a' o c'/\PAt (λb=>K b∨w.heap.size<=b) w' a' o c' vs' (onesP l))/\Bl w w') u w':=by
 have d:=Bl.refl w;have ll:=M.ll;have S:=M.old;refine Ck func22 27<|Ho (X:=Nat×Δ) 17 (λz=>[(4,ι ((z.1:Nat):Int)),(3,z.2),(0,σ a n c)]) (λz v=>Bl w v/\OwnN (λb=>K b∨w.heap.size<=b) v w.heap.size z.2 ((l.take z.1).map (λe:τ×τ=>(Ni.nib e.1,e.2)))/\z.1<=n) (λz=>n-z.1) (0,ε) ⟨d,by rw[BM];exact OwnN.nil (λb i=> .inr i),A8 _⟩ ?_;clear d;rintro⟨j,V⟩ v⟨d,f,hj⟩ I1 Y;simp only at d f hj;by_cases s:j<n
 ·skip
  obtain⟨r,q,a1,n1,c1,A,B,c2,k,x,ea,D,G,F,E,Z⟩:=S.at s;subst ea;have lk:=E.len;have ab:=P j k x D;refine Ht 6 ((j:Int)<(n:Int))<|Fq 7 (λv=>Bl w v) (d.drew) ?_;replace d:=d.drew;refine Dx [0,1,2] 3 (og f22 5 3) (ψ r (q+j*2)) (λv m _=>AW 22 _ _ r q j n c 2 55 rfl (by kernel_rfl) (by kernel_rfl) s υ22 (by kernel_rfl)) d<|Dx [4] 5 (og f22 5 5) (σ a1 n1 c1) (λv m _=>AY 32 _ _ _ _ rfl (by kernel_rfl) ((Ca m (Al G)).trans G) υ32 rfl) d<|Dx [7,8] 9 (og f22 5 9) (ψ r (q+j*2)) (λv m _=>AW 22 _ _ r q j n c 2 55 rfl (by kernel_rfl) (by kernel_rfl) s υ22 (by kernel_rfl)) d<|Dx [10] 11 (og f22 5 11) (σ A B c2) (λv m _=>AY 32 _ _ _ _ rfl (by kernel_rfl) ((Ca m (Al F)).trans F) υ32 rfl) d<|Dz [6] ?_;refine Yc 6 (R:=λu w'=>(∃a' o c',u=σ a' o c'/\Sk (λb=>(v.drew).heap.size<=b) w' a' o c' (Ni.nib k))/\Bl (v.drew) w') (YV (E.go d) (by omega)) (λu w' h=>d.go h.2) ?_ yn;rintro _ u1⟨⟨N,L,O,rfl,y⟩,t⟩;have ac:=t.size;replace f:=f.far (Ac _ _).drew;have W:=f.own;have ad:=d.size;replace d:=d.go t;refine Dx [] 12 (og f22 5 12) (γ #[σ N L O,σ A B c2]) (λv m=>(λ_=>by kernel_rfl)) d<|Dz [13] ?_;refine ZQ 13 #[σ N L O,σ A B c2] 97 1 (λw' g h=>d.go h.below) ?_ yn;intro wN gN p _;replace y:=y.mono (K':=λb=>(K b/\b<w.heap.size)∨v.drew.heap.size<=b) (λb i=> .inr i);have U:=PAt.oneN p y ((Z.go d).mono (K':=λb=>(K b/\b<w.heap.size)∨v.drew.heap.size<=b) (λb i=> .inl i)) (by have:=p.hg;exact .inr (by omega));refine Dz [14] ?_;replace f:=(f.far t).far p.below;replace d:=d.go p.below;obtain⟨I,wQ,Q,aa,C⟩:=XaC f U (λb i=>⟨λe=>by have:=W b e;rcases i with h|h<;>omega,by rcases i with h|h;exact .inl h.1;exact .inr (by omega)⟩) (by rw[AQ,Ap];omega) d.size;refine Yx 14 (og f22 5 14) I (λ_=>LN Q _ _ rfl (by kernel_rfl) (by kernel_rfl)) (Cr d C) ?_ yn;replace d:Bl w wQ:=Cr d C;replace f:=aa;refine Dq [15] d<|Hi 4 ((j:Int)+1) ((j:Int)+1) ?_;exact Y 2 (j+1,I) ⟨d,by show OwnN _ _ _ _ ((l.take (j+1)).map _);rw[I4 _ l j _ D];exact f,by show j+1<=n;omega⟩ (by show n-(j+1)<n-j;omega) (λ_=>by kernel_rfl)
 obtain rfl:j=n:=by omega
 rw[A9 (by omega)]at f;refine Hf 6 ((j:Int)<(j:Int)) ?_;obtain⟨J,H,T,eF,hF⟩:=f.pat
 subst eF;exact Hr 15 (σ J (l.map (λe:τ×τ=>(Ni.nib e.1,e.2))).length H) ⟨_,rfl,⟨J,_,H,T,rfl,hF⟩,d⟩
theorem Pu{l:PList}(M:PAt K w a n c vs l)(m:n<=2600000000000){d:Nat}(hd:∀(j:Nat) k x,l[j]?=some (k,x)->d<=k.length):
 κ 50 #[σ a n c,ι (d:Int)] w λu w'=>(λu w'=>(∃a' N c' vs',u=σ a' N c'/\PAt (λb=>K b∨w.heap.size<=b) w' a' N c' vs' (withoutP d l))/\Bl w w') u w':=by
 have f:=Bl.refl w;have ll:=M.ll;have P:=M.old;refine Ck func50 30<|Ho (X:=Nat×Δ) 17 (λz=>[(6,ι ((z.1:Nat):Int)),(5,z.2),(0,σ a n c),(1,ι (d:Int))]) (λz v=>Bl w v/\OwnN (λb=>K b∨w.heap.size<=b) v w.heap.size z.2 ((l.take z.1).map (λe:τ×τ=>(e.1.drop d,e.2)))/\z.1<=n) (λz=>n-z.1) (0,ε) ⟨f,by rw[BM];exact OwnN.nil (λb m=> .inr m),A8 _⟩ ?_;clear f;rintro⟨j,V⟩ v⟨f,i,hj⟩ I1 U;simp only at f i hj;by_cases s:j<n
 ·skip
  obtain⟨r,q,a1,n1,c1,A,C,c2,k,x,ea,E,H,G,F,Y⟩:=P.at s;subst ea;have lk:=F.len;have ad:=hd j k x E;refine Ht 6 ((j:Int)<(n:Int)) ?_;obtain⟨y,t,B,W,Z⟩:=F.cutFrom d (by omega);refine Fq 7 (λv=>Bl w v) (f.drew) ?_;replace f:=f.drew;refine Dx [0,1,2] 3 (og f50 5 3) (ψ r (q+j*2)) (λv o _=>AW 60 _ _ r q j n c 2 97 rfl (by kernel_rfl) (by kernel_rfl) s υ60 (by kernel_rfl)) f<|Dx [4] 5 (og f50 5 5) (σ a1 n1 c1) (λv o _=>AY 32 _ _ _ _ rfl (by kernel_rfl) ((Ca o (Al H)).trans H) υ32 rfl) f<|Dx [6] 7 (og f50 5 7) (σ y t B) (λv o _=>W _ _ _ _ _ _ rfl (by kernel_rfl) (by kernel_rfl) rfl) f<|Dx [8,9] 10 (og f50 5 10) (ψ r (q+j*2)) (λv o _=>AW 60 _ _ r q j n c 2 97 rfl (by kernel_rfl) (by kernel_rfl) s υ60 (by kernel_rfl)) f<|Dx [11] 12 (og f50 5 12) (σ A C c2) (λv o _=>AY 32 _ _ _ _ rfl (by kernel_rfl) ((Ca o (Al G)).trans G) υ32 rfl) f<|Dx [] 13 (og f50 5 13) (γ #[σ y t B,σ A C c2]) (λv o=>(λ_=>by kernel_rfl)) f<|Dz [14] ?_;replace i:=i.far (Ac _ _).drew;have S:=i.own;have ac:=f.size;have ab:=Ab v.drew.heap.size;have T:=(Z.go f).mono (K':=λb=>(K b/\b<w.heap.size)∨v.drew.heap.size<=b) (λb m=> .inl m);refine ZQ 14 #[σ y t B,σ A C c2] 97 1 (λw' g h=>f.go h.below) ?_ yn;intro wN gN p _;have R:=PAt.oneN p T ((Y.go f).mono (K':=λb=>(K b/\b<w.heap.size)∨v.drew.heap.size<=b) (λb m=> .inl m)) (by have:=p.hg;exact .inr (by omega));refine Dz [15] ?_;replace f:=f.go p.below;replace i:=i.far p.below;obtain⟨J,wQ,O,aa,D⟩:=XaC i R (λb m=>⟨λe=>by have:=S b e;rcases m with h|h<;>omega,by rcases m with h|h;exact .inl h.1;exact .inr (by omega)⟩) (by rw[AQ,Ap];omega) f.size;refine Yx 15 (og f50 5 15) J (λ_=>LN O _ _ rfl (by kernel_rfl) (by kernel_rfl)) (Cr f D) ?_ yn;replace f:Bl w wQ:=Cr f D;replace i:=aa;refine Dq [16] f<|Hi 4 ((j:Int)+1) ((j:Int)+1) ?_;exact U 2 (j+1,J) ⟨f,by show OwnN _ _ _ _ ((l.take (j+1)).map _);rw[I4 _ l j _ E];exact i,by show j+1<=n;omega⟩ (by show n-(j+1)<n-j;omega) (λ_=>by kernel_rfl)
 obtain rfl:j=n:=by omega
 rw[A9 (by omega)]at i;refine Hf 6 ((j:Int)<(j:Int)) ?_;obtain⟨L,I,Q,eF,hF⟩:=i.pat
 subst eF;exact Hr 15 (σ L (l.map (λe:τ×τ=>(e.1.drop d,e.2))).length I) ⟨_,rfl,⟨L,_,I,Q,rfl,hF⟩,f⟩
end
namespace Ni
theorem rcommon_any(C D:Ω)(a c1 c c2:Nat)(p q:τ)(w:Γ)(s:Ag w C a c1 p)(o:Ag w D c c2 q)(Z:a<=140737488355328)(aa:c<=140737488355328):
 Calls prog 77 #[σ C a c1,σ D c c2] w λe w'=>e=ω (ι (com p q:Nat))/\Λ w w':=by
 have n:=Aa s.l;have m:=Aa o.l;have H:=Aa (λh=>ag_head s h);have J:=Aa (λh=>ag_head o h);clear s o;obtain⟨L,g⟩:∃r,com p q=r:=⟨_,rfl⟩;rw[g];have G:=Aa g;clear g;go_enter func77,ntmps77;go_wp2_with fail
 go_loopw [5] (λi v=>∃j:Nat,j<=a/\j<=c/\i=ι j/\p.take j=q.take j/\Λ w v) (λi _=>a-(intOf i).toNat)
 case atStart=>exact⟨0,by omega,by omega,rfl,rfl,Ac _ _⟩
 case round=>
  obtain⟨j,Y,ab,rfl,z,B⟩:=hrel;have A:=Aa z;have d:=Aa B;clear z B;have HD:Hid ((j=p.length∨j=q.length∨p.getD j 0≠q.getD j 0)->L=j):=Aa (λh=>G.out.symm.trans (La p q j (by have:=n.out;omega) (by have:=m.out;omega) A.out h));by_cases t:j<a
  case neg=>
   have I:¬(j:Int)<a:=(by omega);have e:=HD.out (.inl (by have:=n.out;omega));subst e;go_wp2_with fail
   go_region
   all_goals
    go_wp2_with fail;go_ret;exact⟨rfl,d.out.drew⟩
  have U:(j:Int)<a:=by omega
  by_cases u:j<c
  case neg=>
   have I:¬(j:Int)<c:=(by omega);have e:=HD.out (.inr (.inl (by have:=m.out;omega)));subst e;go_wp2_with fail
   go_region
   all_goals
    go_wp2_with fail;go_ret;exact⟨rfl,d.out.drew⟩
  have W:(j:Int)<c:=by omega
  obtain⟨R,Q,rfl,V,F,l⟩:=H.out (by omega);obtain⟨N,P,rfl,X,E,k⟩:=J.out (by omega);unfold maxLen at F E;have T:=(d.out.cell (p:=⟨R,Q+j,none⟩) (Al (l j t))).trans (l j t);have S:=(d.out.cell (p:=⟨N,P+j,none⟩) (Al (k j u))).trans (k j u);have K:=Aa (take_snoc (b:=p) (i:=j) (by have:=n.out;omega));have M:=Aa (take_snoc (b:=q) (i:=j) (by have:=m.out;omega));generalize p.getD j 0=x at*;generalize q.getD j 0=y at*;clear l k;by_cases f:x=y
  ·subst f;have O:(x==x)=true:=(by simp);go_wp2_with fail
   go_region
   all_goals
    go_wp2_with fail;exact⟨⟨j+1,by omega,by omega,by simp,by rw[K.out,M.out,A.out],d.out.drew⟩,by simp[intOf];omega⟩
  ·have e:=HD.out (.inr (.inr f));subst e;have O:(x==y)=false:=(by simpa using f);clear f;go_wp2_with fail
   go_region
   all_goals
    go_wp2_with fail;go_ret;exact⟨rfl,d.out.drew⟩
end Ni
section
open Tr
variable {j n c g : Nat} {K : Nat → Prop} {w : World} {a : Option Addr} {vs : List (Value × Value)}
theorem Pv{l:PList}{e:τ×τ}(h:l[0]?=some e):alikeP (l.take 1)=e.1.length:=by
 cases l with
 |nil=>simp at h
 |cons f r=>
  have:f=e:=by simpa using h
  subst this;rfl
theorem QA{l:PList}{e f:τ×τ}(a:l[0]?=some e)(b:l[j]?=some f)(d:1<=j):alikeP (l.take (j+1))=min (alikeP (l.take j)) (Ni.com e.1 f.1):=by
 cases l with
 |nil=>simp at a
 |cons g r=>
  have:g=e:=by simpa using a
  subst this;obtain⟨i,rfl⟩:∃i,j=i+1:=⟨j-1,by omega⟩;have c:r[i]?=some f:=by simpa using b
  rw[CF,CF,BP,c];simp only[alikeP,Option.toList_some,List.foldl_append,List.foldl_cons,List.foldl_nil]
theorem QB{l:PList}{e:τ×τ}(i:Int)(a:l[j]?=some e):underP i (l.take (j+1))=underP i (l.take j)++under1 i e:=by
 unfold underP;rw[BP,a,C7];simp
theorem Io(i:Int):∀l:PList,(underP i l).length<=l.length
 |[]=>Ab _
 |e::r=>by
  have:=Io i r;have a:(under1 i e).length<=1:=by unfold under1;split;simp;split<;>simp
  unfold underP at this⊢;rw[Cp,Af,AE];omega
theorem MS{l:PList}(G:PAt K w a n c vs l)(V:n<=2600000000000)(i:0<n)(t:∀(j:Nat) k x,l[j]?=some (k,x)->k.length<=1000000):
 κ 49 #[σ a n c] w λu w'=>(λu w'=>u=ι ((alikeP l:Nat):Int)/\Bl w w') u w':=by
 have b:=Bl.refl w;have ll:=G.ll;have A:=G.old;obtain⟨g,f,H,n0,c0,b0,m0,d0,d,x0,s,r,p,_,B,_⟩:=A.at i;subst s;have L:=B.len;have S:=t 0 d x0 r;refine Ck func49 31<|Hx 8 (og f49 1 1) (ψ g (f+0*2)) (λ_=>AW 60 _ _ g f 0 n c 2 97 rfl (by kernel_rfl) (by kernel_rfl) i υ60 (by kernel_rfl))<|Hx 1 (og f49 1 3) (σ H n0 c0) (λ_=>AY 32 _ _ _ _ rfl (by kernel_rfl) ((Ca b (Al p)).trans p) υ32 rfl)<|Ho (X:=Nat×Nat) 11 (λz=>[(4,ι ((z.1:Nat):Int)),(3,ι ((z.2:Nat):Int)),(0,σ (ζ g f) n c)]) (λz v=>Bl w v/\z.2=alikeP (l.take z.1)/\1<=z.1/\z.1<=n) (λz=>n-z.1) (1,n0) ⟨b,by rw[Pv r];exact L.symm,Ab _,i⟩ ?_;clear b;rintro⟨j,m⟩ v⟨b,q,E,N⟩ W J;simp only at b q E N;by_cases y:j<n
 ·skip
  obtain⟨gJ,Y,O,P,c1,U,m1,Z,k1,x1,s,C,F,_,D,_⟩:=A.at y;cases s;have T:=D.len;have Q:=t j k1 x1 C;refine Ht 6 ((j:Int)<(n:Int))<|Fq 8 (λv=>Bl w v) (b.drew) ?_;replace b:=b.drew;refine Dx [0] 1 (og f49 5 1) (ψ g (f+0*2)) (λv o _=>AW 60 _ _ g f 0 n c 2 97 rfl (by kernel_rfl) (by kernel_rfl) i υ60 (by kernel_rfl)) b<|Dx [2] 3 (og f49 5 3) (σ H n0 c0) (λv o _=>AY 32 _ _ _ _ rfl (by kernel_rfl) ((Ca o (Al p)).trans p) υ32 rfl) b<|Dx [4,5] 6 (og f49 5 6) (ψ g (f+j*2)) (λv o _=>AW 60 _ _ g f j n c 2 97 rfl (by kernel_rfl) (by kernel_rfl) y υ60 (by kernel_rfl)) b<|Dx [7] 8 (og f49 5 8) (σ O P c1) (λv o _=>AY 32 _ _ _ _ rfl (by kernel_rfl) ((Ca o (Al F)).trans F) υ32 rfl) b<|Dz [9] ?_;refine Yc 9 (R:=λu w'=>u=ι ((Ni.com d k1:Nat):Int)/\Bl (v.drew) w') ((Ni.rcommon_any _ _ _ _ _ _ d k1 _ (B.go b).ag (D.go b).ag (by omega) (by omega)).mono (λe w'⟨i,M⟩=>⟨_,i,rfl,M⟩)) (λu w' h=>b.go h.2) ?_ yn;rintro _ u1⟨rfl,I⟩;replace b:=b.go I;refine Dq [10] b<|Hw 4 (ι (if((Ni.com d k1:Nat):Int)<(m:Int)then((Ni.com d k1:Nat):Int)else(m:Int))) (ι ((min m (Ni.com d k1):Nat):Int)) (Ao (Value.int .i64) (by split<;>omega))<|Hi 6 ((j:Int)+1) ((j:Int)+1) ?_;exact J 2 (j+1,min m (Ni.com d k1)) ⟨b,by show min m (Ni.com d k1)=_;rw[QA r C E,q],by show 1<=j+1;omega,by show j+1<=n;omega⟩ (by show n-(j+1)<n-j;omega) (λ_=>by kernel_rfl)
 obtain rfl:j=n:=by omega
 rw[A9 (by omega)]at q;refine Hf 6 ((j:Int)<(j:Int)) ?_;exact Hr 15 (ι (m:Int)) ⟨_,rfl,by rw[q],b⟩
theorem under_any{l:PList}(W:PAt K w a n c vs l)(s:n<=2600000000000)(i:Nat)(hi:i<16):
 κ 51 #[σ a n c,ι (i:Int)] w λu w'=>(λu w'=>(∃a' Y c' vs',u=σ a' Y c'/\PAt (λb=>K b∨w.heap.size<=b) w' a' Y c' vs' (underP (i:Int) l))/\Bl w w') u w':=by
 have d:=Bl.refl w;have ll:=W.ll;have aa:=W.old;refine Ck func51 48<|Ho (X:=Nat×Δ) 17 (λz=>[(6,ι ((z.1:Nat):Int)),(5,z.2),(0,σ a n c),(1,ι (i:Int))]) (λz v=>Bl w v/\OwnN (λb=>K b∨w.heap.size<=b) v w.heap.size z.2 (underP (i:Int) (l.take z.1))/\z.1<=n) (λz=>n-z.1) (0,ε) ⟨d,by rw[BM];exact OwnN.nil (λb s=> .inr s),A8 _⟩ ?_;clear d;rintro⟨j,V⟩ v⟨d,o,hj⟩ I1 I;simp only at d o hj;by_cases B:j<n
 ·skip
  obtain⟨m,f,a1,r,c1,M,O,c2,k,x,ea,ad,q,R,G,ak⟩:=aa.at B;subst ea;have lk:=G.len;have D:=QB (i:Int) ad;have ah:=Io (i:Int) (l.take j);rw[Ap]at ah;cases k with
  |nil=>
   rw[show under1 (i:Int) ([],x)=[]from rfl,A7]at D;refine Ht 6 ((j:Int)<(n:Int))<|Hx 11 (og f51 5 2) (ψ m (f+j*2)) (λ_=>AW 60 _ _ m f j n c 2 97 rfl (by kernel_rfl) (by kernel_rfl) B υ60 (by kernel_rfl))<|Hx 1 (og f51 5 4) (σ a1 r c1) (λ_=>AY 32 _ _ _ _ rfl (by kernel_rfl) ((Ca d (Al q)).trans q) υ32 rfl)<|Hb 1 (decide ((r:Int)>(0:Int))) false (Bi (by simp at lk;omega))<|Hi 20 ((j:Int)+1) ((j:Int)+1) ?_;exact I 2 (j+1,V) ⟨d,by show OwnN _ _ _ _ (underP (i:Int) (l.take (j+1)));rw[D];exact o,by show j+1<=n;omega⟩ (by show n-(j+1)<n-j;omega) (λ_=>by kernel_rfl)
  |cons y p=>
   obtain⟨A,t,ae,E,Q⟩:=G.head;subst ae;have ap:=G.ag.b y (by simp);by_cases F:y=(i:Int)
   ·skip
    rw[show under1 (i:Int) (y::p,x)=[(p,x)]from Ai F]at D;refine Ht 6 ((j:Int)<(n:Int))<|Hx 11 (og f51 5 2) (ψ m (f+j*2)) (λ_=>AW 60 _ _ m f j n c 2 97 rfl (by kernel_rfl) (by kernel_rfl) B υ60 (by kernel_rfl))<|Hx 1 (og f51 5 4) (σ (ζ A t) r c1) (λ_=>AY 32 _ _ _ _ rfl (by kernel_rfl) ((Ca d (Al q)).trans q) υ32 rfl)<|Ht 1 ((r:Int)>(0:Int))<|Hx 3 (og f51 5 10) (ψ m (f+j*2)) (λ_=>AW 60 _ _ m f j n c 2 97 rfl (by kernel_rfl) (by kernel_rfl) B υ60 (by kernel_rfl))<|Hx 1 (og f51 5 12) (σ (ζ A t) r c1) (λ_=>AY 32 _ _ _ _ rfl (by kernel_rfl) ((Ca d (Al q)).trans q) υ32 rfl)<|Hx 0 (og f51 5 13) (ψ A (t+0*1)) (λ_=>AW 32 _ _ A t 0 r c1 1 5 rfl (by kernel_rfl) (by kernel_rfl) Q υ32 (by kernel_rfl))<|Hx 0 (og f51 5 14) (η y) (λ_=>AY 5 _ _ _ _ rfl (by kernel_rfl) ((Ca d (Al E)).trans E) υ5 rfl)<|Hw 0 (ι (IntKind.i64.wrap y)) (ι y) (Ao (Value.int .i64) (Cy (by omega) (by omega)))<|Hb 1 ((y:Int)==(i:Int)) true (Ee.2 F) ?_;obtain⟨L,J,N,aj,al⟩:=G.cutFrom 1 (by omega);refine Fq 4 (λv=>Bl w v) (d.drew) ?_;replace d:=d.drew;refine Dx [0,1,2] 3 (og f51 6 3) (ψ m (f+j*2)) (λv C _=>AW 60 _ _ m f j n c 2 97 rfl (by kernel_rfl) (by kernel_rfl) B υ60 (by kernel_rfl)) d<|Dx [4] 5 (og f51 6 5) (σ (ζ A t) r c1) (λv C _=>AY 32 _ _ _ _ rfl (by kernel_rfl) ((Ca C (Al q)).trans q) υ32 rfl) d<|Dx [] 6 (og f51 6 6) (σ L J N) (λv C _=>aj _ _ _ _ _ _ rfl (by kernel_rfl) (by kernel_rfl) rfl) d<|Dx [7,8] 9 (og f51 6 9) (ψ m (f+j*2)) (λv C _=>AW 60 _ _ m f j n c 2 97 rfl (by kernel_rfl) (by kernel_rfl) B υ60 (by kernel_rfl)) d<|Dx [10] 11 (og f51 6 11) (σ M O c2) (λv C _=>AY 32 _ _ _ _ rfl (by kernel_rfl) ((Ca C (Al R)).trans R) υ32 rfl) d<|Dx [] 12 (og f51 6 12) (γ #[σ L J N,σ M O c2]) (λv C=>(λ_=>by kernel_rfl)) d<|Dz [13] ?_;replace o:=o.far (Ac _ _).drew;have af:=o.own;have aq:=d.size;have ao:=Ab v.drew.heap.size;have ai:=(al.go d).mono (K':=λb=>(K b/\b<w.heap.size)∨v.drew.heap.size<=b) (λb s=> .inl s);refine ZQ 13 #[σ L J N,σ M O c2] 97 1 (λw' g h=>d.go h.below) ?_ yn;intro wN gN H _;have ac:=PAt.oneN H ai ((ak.go d).mono (K':=λb=>(K b/\b<w.heap.size)∨v.drew.heap.size<=b) (λb s=> .inl s)) (by have:=H.hg;exact .inr (by omega));refine Dz [14] ?_;replace d:=d.go H.below;replace o:=o.far H.below;obtain⟨T,wQ,Z,am,P⟩:=XaC o ac (λb s=>⟨λe=>by have:=af b e;rcases s with h|h<;>omega,by rcases s with h|h;exact .inl h.1;exact .inr (by omega)⟩) (by omega) d.size;refine Yx 14 (og f51 6 14) T (λ_=>LN Z _ _ rfl (by kernel_rfl) (by kernel_rfl)) (Cr d P) ?_ yn;replace d:Bl w wQ:=Cr d P;replace o:=am;refine Dq [15] d<|Hi 4 ((j:Int)+1) ((j:Int)+1) ?_;exact I 2 (j+1,T) ⟨d,by show OwnN _ _ _ _ (underP (i:Int) (l.take (j+1)));rw[D];exact o,by show j+1<=n;omega⟩ (by show n-(j+1)<n-j;omega) (λ_=>by kernel_rfl)
   ·skip
    rw[show under1 (i:Int) (y::p,x)=[]from Ae F,A7]at D;refine Ht 6 ((j:Int)<(n:Int))<|Hx 11 (og f51 5 2) (ψ m (f+j*2)) (λ_=>AW 60 _ _ m f j n c 2 97 rfl (by kernel_rfl) (by kernel_rfl) B υ60 (by kernel_rfl))<|Hx 1 (og f51 5 4) (σ (ζ A t) r c1) (λ_=>AY 32 _ _ _ _ rfl (by kernel_rfl) ((Ca d (Al q)).trans q) υ32 rfl)<|Ht 1 ((r:Int)>(0:Int))<|Hx 3 (og f51 5 10) (ψ m (f+j*2)) (λ_=>AW 60 _ _ m f j n c 2 97 rfl (by kernel_rfl) (by kernel_rfl) B υ60 (by kernel_rfl))<|Hx 1 (og f51 5 12) (σ (ζ A t) r c1) (λ_=>AY 32 _ _ _ _ rfl (by kernel_rfl) ((Ca d (Al q)).trans q) υ32 rfl)<|Hx 0 (og f51 5 13) (ψ A (t+0*1)) (λ_=>AW 32 _ _ A t 0 r c1 1 5 rfl (by kernel_rfl) (by kernel_rfl) Q υ32 (by kernel_rfl))<|Hx 0 (og f51 5 14) (η y) (λ_=>AY 5 _ _ _ _ rfl (by kernel_rfl) ((Ca d (Al E)).trans E) υ5 rfl)<|Hw 0 (ι (IntKind.i64.wrap y)) (ι y) (Ao (Value.int .i64) (Cy (by omega) (by omega)))<|Hb 1 ((y:Int)==(i:Int)) false (Bo.2 F)<|Hi 9 ((j:Int)+1) ((j:Int)+1) ?_;exact I 2 (j+1,V) ⟨d,by show OwnN _ _ _ _ (underP (i:Int) (l.take (j+1)));rw[D];exact o,by show j+1<=n;omega⟩ (by show n-(j+1)<n-j;omega) (λ_=>by kernel_rfl)
 obtain rfl:j=n:=by omega
 rw[A9 (by omega)]at o;refine Hf 6 ((j:Int)<(j:Int)) ?_;obtain⟨U,S,ab,eF,hF⟩:=o.pat
 subst eF;exact Hr 15 (σ U (underP (i:Int) l).length S) ⟨_,rfl,⟨U,_,S,ab,rfl,hF⟩,d⟩
theorem Ub{t:Tr}(h:Rw g w #[ν] 71)(c:TA K w t (ν))(d:t=no∨Tr.Ok 64 t):
 κ 18 #[π g] w λu w'=>(λu w'=>(∃g',u=π g'/\w.heap.size<=g'/\Tri K w' g' t)/\Bl w w') u w':=by
 have b:=Bl.refl w;refine Ck func18 9<|Hl 10 h 0 69 (ν)<|Hn 1 #[ν] 71 ?_;intro w1 f a e;replace b:=b.go a.below;replace c:=c.go a.below;exact Hr 4 (π f) ⟨_,rfl,⟨_,rfl,(by rw[a.hg];exact Ab _),⟨⟨_,e,c⟩,d⟩⟩,b⟩
theorem QC{t:Tr}{T0:TypeId}{v0:Δ}(h:Rw g w #[.iface T0 v0] 71)(c:TA K w t (.iface T0 v0))(d:t=no∨Tr.Ok 64 t):
 κ 18 #[π g] w λu w'=>(λu w'=>(∃g',u=π g'/\w.heap.size<=g'/\Tri K w' g' t)/\Bl w w') u w':=by
 have b:=Bl.refl w;refine Ck func18 9<|Hl 10 h 0 69 (.iface T0 v0)<|Hn 1 (#[.iface T0 v0]) 71 ?_;intro w1 f a e;replace b:=b.go a.below;replace c:=c.go a.below;exact Hr 4 (π f) ⟨_,rfl,⟨_,rfl,(by rw[a.hg];exact Ab _),⟨⟨_,e,c⟩,d⟩⟩,b⟩
theorem QD{t:Tr}(h:Tri K w g t):
 κ 18 #[π g] w λu w'=>(∃g',u=π g'/\w.heap.size<=g'/\Tri K w' g' t)/\Bl w w':=by
 obtain⟨⟨v,c,a⟩,b⟩:=h;rcases id b with rfl|e
 ·have d:v=ν:=a;subst d;exact Ub c a b
 ·obtain⟨T0,v0,rfl⟩:=a.iface e.ne;exact QC c a b
end
section
variable {K : Nat → Prop} {w w' u : World} {ys post C : List RV} {rs : List PR} {y : RV} {gk gn : Nat}
theorem Kt{P:Program}(w:World)(base:Nat)(t ty e:TypeId)(i:TypeInfo)(z:Value)(size p:Nat)(l:P.underlying t=some (.slice e))(o:P.info? e=some i)(q:i.zero=some z)
 (s:i.size=size) (A:i.bytes=p) (I:z.cells.size=size) (G:0<size)
 (v:Value) (n:Nat) (xs:List Value) (k:w.ownsRow base e size v n xs)
 (a:Addr) (m c:Nat) (news:List Value) (d:news.length=m*size) (h:∀j u,news[j]?=some u->w.cell? (a.add j)=some u) (B:∀u∈news,u.oneCell'=true) (F:0<m)
 (y:n+m<=maxLen) (r:((n+m)+(n+m)/4+192)*p<=281474976710656) (C:base<=w.heap.size):
 ∃v' w',(Builtin.append_ #[t,t] ty #[v, .slice (some a) m c]).run P w= .ok v' w'/\w'.ownsRow base e size v' (n+m) (xs++news)/\w.grownBy w' v.ownBlock/\
  (v'= .slice none 0 0↔v= .slice none 0 0/\m=0)/\(v'.ownBlock=v.ownBlock∨v'.ownBlock=some w.heap.size):=by
 obtain⟨v',w',b,M,J,L⟩:=run_append_own_wide w base t ty e i z size p l o q s A I G v n xs k a m c news d h B y r C;refine⟨v',w',b,M,J,L,?_⟩;subst s;subst A;have N:n+m<=9223372036854775807:=by simp only[maxLen]at y;omega
 rcases k.2 with⟨rfl,rfl⟩|⟨g,cap,cur,rfl,R,K,S,Q,H,O⟩
 ·have f:=EU (P:=P) w t ty e i z l o q a m c news d h F (by omega) (by
   have T:m*i.bytes<=(0+m+(0+m)/4+192)*i.bytes:=E0 _ (by omega);omega)
  rw[f]at b;cases b;exact .inr rfl
 ·by_cases x:n+m<=cap
  ·have E:n*i.size+news.length<=cur.size:=(by rw[d,H,<-Nat.add_mul];exact E0 _ x);have f:=EE (P:=P) w t ty e i l o g n cap cur K a m c news d h B x E;rw[f]at b;cases b;exact .inl rfl
  ·have D:∀j u,xs[j]?=some u->w.cell? ((⟨g,0,none⟩:Addr).add j)=some u:=k.cells (g:=g) rfl;have f:=EF (P:=P) w t ty e i z l o q ⟨g,0,none⟩ n cap xs k.1 D a m c news d h (by omega) (by omega) (growslice_fits_wide (by omega) r);rw[f]at b;cases b;exact .inr rfl
def flatR(ys:List RV):List Δ:=ys.flatMap RV.cells
theorem FD:∀{ys:List RV},(∀y∈ys,y.d.length=32)->(flatR ys).length=ys.length*34
 |[],_=>rfl
 |y::r,h=>by
  have a:=FD λz b=>h z (Az _ b);unfold flatR at a⊢;rw[Cp,Af,a,RV.len (h y (by simp)),AE];omega
theorem Gt(a b:List RV):flatR (a++b)=flatR a++flatR b:=by unfold flatR;rw[C7]
theorem JR(y:RV):flatR [y]=y.cells:=by unfold flatR;rw[Cp,List.flatMap_nil,A7]
theorem QE:∃i,prog.info? 118=some i/\i.zero=some (γ rz.cells.toArray)/\i.size=34/\i.bytes=64:=by
 have h:(prog.info? 118).map (λi=>(i.zero,i.size,i.bytes))=some (some (γ rz.cells.toArray),34,64):=by kernel_rfl
 cases a:prog.info? 118 with
 |none=>rw[a]at h;simp at h
 |some i=>rw[a]at h;simp at h;exact⟨i,rfl,h.1,h.2.1,h.2.2⟩
theorem XaD:madeCells (γ rz.cells.toArray).cells ((16:Int).toNat*34)=(flatR (List.replicate 16 rz)).toArray:=by kernel_rfl
section
variable {a : Act} {w : World}
theorem MT{o:Oper}(d:o.op= .makeSlice 119 (.const (ι 16)) (.const (ι 16))):(execOp a.eval o).run prog w= .ok (.value (σ (some ⟨w.heap.size,0,none⟩) 16 16)) (w.alloc (.cells (flatR (List.replicate 16 rz)).toArray 118)):=by
 obtain⟨i,f,g,c,b⟩:=QE;have e:(Instr.makeSlice 119 (ι 16) (ι 16)).run prog w= .ok (σ (some ⟨w.heap.size,0,none⟩) 16 16) (w.alloc (.cells (flatR (List.replicate 16 rz)).toArray 118)):=by
  have h:=run_make (P:=prog) w 119 118 i _ υ119 f g .i64 .i64 16 16 (by omega) (by omega) (by rw[b];omega) (by omega);rw[c,show madeCells (γ rz.cells.toArray).cells ((16:Int).toNat*34)=(flatR (List.replicate 16 rz)).toArray from XaD]at h;exact h
 unfold execOp;rw[d];simp only[Act.eval,AO,e,A4,AV]
theorem Ip{o:Oper}(b:o.op= .alloc 121):(execOp a.eval o).run prog w= .ok (.value (π (w.heap.size))) (w.alloc (.cells nz.cells.toArray 121)):=by
 unfold execOp;rw[b];go_simp;rfl
theorem QF{x y:Operand}{o:Oper}(h:o.op= .store 118 x y)(g off:Nat)(r:RV)(d:r.d.length=32)(m:a.eval x=ψ g off)(j:a.eval y=γ r.cells.toArray)(t:TypeId)(cur:Ξ)
 (l:w.heap[g]?=some (.cells cur t (0,0))) (n:off+34<=cur.size):
 (execOp a.eval o).run prog w= .ok .skip (w.setRow g (cur.toList.take off++r.cells++cur.toList.drop (off+34)).toArray):=by
 have e:=run_storeCells_at prog g off t r.cells 0 cur w l (by rw[RV.len d];omega) r.one;have b:=EW;cases c:prog.info? 118 with
 |none=>rw[c]at b;simp at b
 |some i=>
  have k:i.size=34:=by rw[c]at b;simpa using b
  have f:(storeVar 118 ⟨g,off,none⟩ (γ r.cells.toArray)).run prog w= .ok () (w.setRow g (cur.toList.take off++r.cells++cur.toList.drop (off+34)).toArray):=by
   rw[RV.len d]at e;simp[storeVar,sizeOf,typeInfo,c,Value.cells,k,RV.len d];simpa using e
  unfold execOp;rw[h];simp only[m,j,Instr.storeAt,Instr.sureAddr,AO,AV,A4,f]
end
theorem MU:∀{ts:List T}{t:T},t∈ts->refOfP t=none->kidsP ts=none
 |x::l,t,a,h=>by
  rw[kidsP];rcases Ay.1 a with rfl|a
  ·rw[h]
  ·rw[MU a h];cases refOfP x<;>rfl
theorem MV:∀{ts:List T}{rs:List PR}{t:T}{r:PR},kidsP ts=some rs->refOfP t=some r->kidsP (ts++[t])=some (rs++[r])
 |[],rs,t,r,h,c=>by
  cases h;rw[AH,kidsP,c,kidsP];rfl
 |x::l,rs,t,r,h,c=>by
  rw[kidsP]at h;rw[BS,kidsP];cases d:refOfP x with
  |none=>rw[d]at h;cases h
  |some a=>
   rw[d]at h;dsimp only at h⊢;cases b:kidsP l with
   |none=>rw[b]at h;cases h
   |some l'=>
    rw[b]at h;cases h;rw[MV b c];rfl
def RefsAt(K:Θ)(w:Γ)(ys:List RV)(rs:List PR):Prop:=rs.length=ys.length/\(∀y∈ys,y.d.length=32)/\∀(i:Nat)(y:RV)(r:PR),ys[i]?=some y->rs[i]?=some r->RefAt K w y r
theorem RefsAt.go{L:Θ}(c:Keep K L w w')(h:RefsAt K w ys rs):RefsAt L w' ys rs:=⟨h.1,h.2.1,λi y r a b=>(h.2.2 i y r a b).go c⟩
theorem RefsAt.snoc{r:PR}(h:RefsAt K w ys rs)(e:RefAt K w y r):RefsAt K w (ys++[y]) (rs++[r]):=by
 refine⟨by simp[h.1],λz a=>?_,λi z s b c=>?_⟩
 ·rcases AP.1 a with a|a
  ·exact h.2.1 z a
  ·simp only[Ay,BN,Dn]at a;rw[a];exact e.len
 ·by_cases d:i<ys.length
  ·rw[Bg d]at b;rw[Bg (by rw[h.1];exact d)]at c;exact h.2.2 i z s b c
  ·have f:i=ys.length:=by
    have:=(Ar.1 b).1;simp at this;omega
   subst f;simp at b;rw[<-h.1]at c;simp at c;rw[<-b,<-c];exact e
theorem Sv{pre:List RV}(a:∀z∈pre,z.d.length=32){j:Nat}{u:Δ}(h:y.cells[j]?=some u):(flatR (pre++y::post))[pre.length*34+j]?=some u:=by
 have e:flatR (pre++y::post)=flatR pre++(y.cells++flatR post):=by
  rw[Gt,show y::post=[y]++post from rfl,Gt,JR]
 rw[e,Bn (by rw[FD a];omega),FD a,show pre.length*34+j-pre.length*34=j from by omega,Bg (Ar.1 h).1];exact h
theorem QG{g:Nat}(f:w.heap[g]?=some (.cells (flatR ys).toArray 118))(i:K g)(h:RefsAt K w ys rs):KidsAt K w (ζ g 0) rs:=λj r c=>by
 have a:j<ys.length:=by rw[<-h.1];exact(Ar.1 c).1
 refine⟨g,0,ys[j],rfl,i,λk u l=>?_,h.2.2 j _ r (Ad a) c⟩;rw[Aj _ _ _ _ _ _ f,List.getElem?_toArray];have e:ys=ys.take j++ys[j]::ys.drop (j+1):=by rw[<-Bv a,Bj]
 have d:(ys.take j).length=j:=by rw[Ap];omega
 have b:=Sv (pre:=ys.take j) (post:=ys.drop (j+1)) (λz m=>h.2.1 z (Bb m)) l;rw[d,<-e]at b;rw[show 0+j*34+k=j*34+k from by omega];exact b
theorem W4{pre:List RV}{z:RV}(b:∀x∈pre,x.d.length=32)(a:z.d.length=32):
 (flatR (pre++z::post)).take (pre.length*34)++y.cells++(flatR (pre++z::post)).drop (pre.length*34+34)=flatR (pre++y::post):=by
 have e:∀x:RV,flatR (pre++x::post)=flatR pre++(x.cells++flatR post):=λx=>by
  rw[Gt,show x::post=[x]++post from rfl,Gt,JR]
 rw[e z,e y];have c:=FD b;rw[Cw (by omega),A9 (by omega),List.drop_append,Bx (by omega),AH,c,show pre.length*34+34-pre.length*34=34 from by omega,List.drop_append,Bx (by rw[RV.len a];omega),AH,RV.len a,C8,C1,AX]
section
variable {w : World} {ops : Array Oper} {rest : List Oper} {o : Oper} {a : Act} {Q : Exit → Act → World → Prop}
theorem Pw(c:Region.wanted o (yielded ops a.tmps)=true)(x y:Operand)(d:o.op= .store 118 x y)(g off:Nat)(r:RV)(e:r.d.length=32)(k:a.eval x=ψ g off)(f:a.eval y=γ r.cells.toArray)(t:TypeId)(cur:Ξ)
 (j:w.heap[g]?=some (.cells cur t (0,0))) (b:off+34<=cur.size) (h:wpList prog ops Q rest (a.put o.dst undef) (w.setRow g (cur.toList.take off++r.cells++cur.toList.drop (off+34)).toArray)):wpList prog ops Q (o::rest) a w:=
 L7 c λK i=>by
  unfold Oper.wp;rw[QF d g off r e k f t cur j b,Oper.upon_skip];exact i _ _ h
end
structure Pb(w v:Γ)(y:V):Prop where
 row:v.heap[w.heap.size+1]?=some (.cells nz.cells.toArray 121)
 bx:B1 w.heap.size v y
 bel:Λ w v
 sz:v.heap.size=w.heap.size+2
theorem W5(w:Γ)(y:V):Pb w ((w.alloc (.cells #[β y.l,σ y.ba y.bn y.bc,σ y.ia y.m y.ic] 108)).alloc (.cells nz.cells.toArray 121)) y:=by
 have a:(w.alloc (.cells #[β y.l,σ y.ba y.bn y.bc,σ y.ia y.m y.ic] 108)).heap.size=w.heap.size+1:=by simp
 refine⟨?_,(E9 w y).alloc _,below_go (below_new w _) (below_new _ _),by simp⟩;have:=Ak (w.alloc (.cells #[β y.l,σ y.ba y.bn y.bc,σ y.ia y.m y.ic] 108)) (.cells nz.cells.toArray 121);rwa [a]at this
def nvB(y:V)(gk:Nat):NV:=⟨3,none,0,0,y.ba,y.bn,y.bc,rz,some ⟨gk,0,none⟩,16,16⟩
structure Bk(w u:Γ)(y:V)(gk gn:Nat)(C:List RV):Prop where
 row:u.heap[w.heap.size+1]?=some (.cells nz.cells.toArray 121)
 bx:B1 w.heap.size u y
 nb:NBx gn u (nvB y gk)
 kr:u.heap[gk]?=some (.cells (flatR C).toArray 118)
 bel:Λ w u
 gk2:w.heap.size+2<=gk/\gk<w.heap.size+4
 gn2:w.heap.size+2<=gn/\gn<w.heap.size+4
 ne:gk≠gn
 sz:w.heap.size+4<=u.heap.size
theorem Bk.go{b:Γ}{y:V}(h:Bk w u y gk gn C)(a:Λ u b):Bk w b y gk gn C:=
 ⟨Below.row a h.row,h.bx.go a,h.nb.go a,Below.row a h.kr,below_go h.bel a,h.gk2,h.gn2,h.ne,Au h.sz a.size⟩
theorem Bk.put{y:V}{D:List RV}(h:Bk w u y gk gn C):Bk w (u.setRow gk (flatR D).toArray) y gk gn D:=
 ⟨(Bc _ _ _ _ (by have:=h.gk2;omega)).trans h.row,DT h.bx (by have:=h.gk2;omega),⟨(Bc _ _ _ _ (Ne.symm h.ne)).trans h.nb.row,h.nb.l⟩,AC _ _ _ _ _ _ h.kr,Below.setRow h.bel (by have:=h.gk2;omega) _,h.gk2,h.gn2,h.ne,by simpa using h.sz⟩
theorem QH{base:Nat}(h:RefsAt (Own base w) w ys rs)(a:Λ w w'):RefsAt (Own base w') w' ys rs:=h.go (Keep.own a (Ab _))
theorem LO(P:Nat->Prop)(ts:List T)(a:Option Addr)(c:Nat)(u:T)(y:V)(w:World)(h16:ts.length=16)(hall:LiesAll w ts a 0)(hc:16<=c/\c<=maxLen)(hy:LiesP P w u y)(hb:∀g,w.heap.size<=g->P g):
 Calls prog 143 #[.slice a 16 c, .agg #[.bool y.l, .slice y.ba y.bn y.bc, .slice y.ia y.m y.ic]] w (NPost P w (branchP ts u)):=by
 obtain⟨l2,bs2,its2⟩:=u;obtain⟨⟨hl2,-⟩,-⟩:=liesP_eq.1 hy;subst hl2;obtain⟨hc1,hc2⟩:=hc;unfold maxLen at hc2;have HY:=Aa hy;have HBASE:=Aa hb;have H16:=Aa h16;have HALL:=Aa hall;obtain⟨res,hres⟩:∃res,branchP ts (.mk y.l bs2 its2)=res:=⟨_,rfl⟩;rw[hres]
 have hres:(match kidsP ts with
  |none=>none
  |some ks=>if y.l=true then none else some (⟨3,[],bs2,r0,ks⟩:PN))=res:=hres
 have HRES:=Aa hres;have HPB0:=Aa (W5 w y);clear hres hy hb h16 hall;go_enter func143,ntmps143;go_upto_region 1 with fail;refine gen_w (p:=λv=>Code.wp _ _ _ _ v) (q:=λv=>Pb w v y) HPB0.out ?_;clear HPB0;intro v P0;have HPB:=Aa P0;clear P0;have HSZ:=Aa HPB.out.sz
 go_cut [6]from 6 to 14 (λs6 u=>∃gk gn,s6= .pointer (some ⟨gn,0,none⟩)/\Bk w u y gk gn (List.replicate 16 rz))
 case first=>
  have HS1:=Aa (show(v.drew.alloc (.cells (flatR (List.replicate 16 rz)).toArray 118)).heap.size=v.heap.size+1 from by simp);have HS2:=Aa (show(v.drew.alloc (.cells nz.cells.toArray 121)).heap.size=v.heap.size+1 from by simp);have HROWA:=Aa (show((v.drew.alloc (.cells (flatR (List.replicate 16 rz)).toArray 118)).alloc (.cells nz.cells.toArray 121)).heap[v.heap.size+1]?=some (.cells nz.cells.toArray 121)from by rw[<-HS1.out];exact heap_alloc_new _ _);have HROWB:=Aa (show((v.drew.alloc (.cells nz.cells.toArray 121)).alloc (.cells (flatR (List.replicate 16 rz)).toArray 118)).heap[v.heap.size]?=some (.cells nz.cells.toArray 121)from(heap_alloc_old _ _ (by rw[HS2.out];omega)).trans (heap_alloc_new v.drew _))
  have HBKA:=Aa (show Bk w (((v.drew.alloc (.cells (flatR (List.replicate 16 rz)).toArray 118)).alloc (.cells nz.cells.toArray 121)).setRow (v.heap.size+1) (nvB y v.heap.size).cells.toArray) y v.heap.size (v.heap.size+1) (List.replicate 16 rz)from by
   have hs:=HPB.out.sz;have hbl:Below v.heap.size v ((v.drew.alloc (.cells (flatR (List.replicate 16 rz)).toArray 118)).alloc (.cells nz.cells.toArray 121)):=below_go (below_go (Below.refl _ _).drew (below_new _ _)) (below_new _ _);refine⟨(setRow_other _ _ _ _ (by omega)).trans (Below.row hbl HPB.out.row),DT (HPB.out.bx.go hbl) (by omega),⟨setRow_heap _ _ _ _ _ _ HROWA.out,rfl⟩,(setRow_other _ _ _ _ (by omega)).trans ((heap_alloc_old _ _ (by rw[HS1.out];omega)).trans (heap_alloc_new v.drew _)),Below.setRow (below_go HPB.out.bel hbl) (by omega) _,⟨by omega,by omega⟩,⟨by omega,by omega⟩,by omega,by simp[hs]⟩)
  have HBKB:=Aa (show Bk w (((v.drew.alloc (.cells nz.cells.toArray 121)).alloc (.cells (flatR (List.replicate 16 rz)).toArray 118)).setRow v.heap.size (nvB y (v.heap.size+1)).cells.toArray) y (v.heap.size+1) v.heap.size (List.replicate 16 rz)from by
   have hs:=HPB.out.sz;have hbl:Below v.heap.size v ((v.drew.alloc (.cells nz.cells.toArray 121)).alloc (.cells (flatR (List.replicate 16 rz)).toArray 118)):=below_go (below_go (Below.refl _ _).drew (below_new _ _)) (below_new _ _);refine⟨(setRow_other _ _ _ _ (by omega)).trans (Below.row hbl HPB.out.row),DT (HPB.out.bx.go hbl) (by omega),⟨setRow_heap _ _ _ _ _ _ HROWB.out,rfl⟩,(setRow_other _ _ _ _ (by omega)).trans (by rw[<-HS2.out];exact heap_alloc_new _ _),Below.setRow (below_go HPB.out.bel hbl) (by omega) _,⟨by omega,by omega⟩,⟨by omega,by omega⟩,by omega,by simp[hs]⟩)
  refine wp_region_held_drew (S:=λv=>B1 w.heap.size v y) (by kernel_rfl) ⟨HPB.out.bx.c0,HPB.out.bx.c1,HPB.out.bx.c2⟩ (λhS=>?_);refine Br 0 11 (.pointer (some ⟨w.heap.size,1,none⟩)) rfl rfl (by kernel_rfl) (by kernel_rfl) (by kernel_rfl) (λ_ _ _ h=>h) (by kernel_rfl) (λv _=>by kernel_rfl) hS ?_;refine Br 1 12 (.slice y.ba y.bn y.bc) rfl rfl (by kernel_rfl) (by kernel_rfl) (by kernel_rfl) (λ_ _ _ h=>h) (by kernel_rfl) (λv hv=>FN rfl (by kernel_rfl) hv.c1) hS ?_;refine wpAnyH_ready (rs:=[2,4]) (by kernel_rfl) (by simp) ?_;refine CE 2 13 (.slice (some ⟨v.heap.size,0,none⟩) 16 16) rfl rfl (by kernel_rfl) (MT rfl) (hS.alloc _) ?_ ?_
  ·refine Br 3 14 (.agg (nvB y v.heap.size).cells.toArray) rfl rfl (by kernel_rfl) (by kernel_rfl) (by kernel_rfl) (λ_ _ _ h=>h) (by kernel_rfl) (λv' _=>Eh 121 _ rfl [(0, .int .i64 3),(2, .slice y.ba y.bn y.bc),(4, .slice (some ⟨v.heap.size,0,none⟩) 16 16)] (by kernel_rfl) _ (OZ _ _ _ _ _ _)) (hS.alloc _) ?_;refine wpAnyH_ready (rs:=[4]) (by kernel_rfl) (by simp) ?_;refine CE 4 6 (.pointer (some ⟨v.heap.size+1,0,none⟩)) rfl rfl (by kernel_rfl) ((Ip rfl).trans (by rw[HS1.out])) ((hS.alloc _).alloc _) ?_ AllReadyH.nil;refine wpAnyH_ready (rs:=[5]) (by kernel_rfl) (by simp) ?_;refine DF 5 rfl rfl (by kernel_rfl) (D1 121 _ _ rfl (v.heap.size+1) (nvB y (v.heap.size)).cells.toArray (by kernel_rfl) (by kernel_rfl) 121 nz.cells.toArray HROWA.out (Cm rfl) (Cg rfl) (all_oneCell_toArray (NV.one _))) ?_ ?_ AllReadyH.nil
   ·exact DT ((hS.alloc _).alloc _) (by have:=HPB.out.sz;omega)
   refine wpAnyH_done (by kernel_rfl) ?_ _
   go_frame
   go_wp2_with fail
   go_meet
   refine⟨v.heap.size,v.heap.size+1,rfl,?_⟩;exact HBKA.out
  refine CE 4 6 (.pointer (some ⟨v.heap.size,0,none⟩)) rfl rfl (by kernel_rfl) (Ip rfl) (hS.alloc _) ?_ AllReadyH.nil;refine wpAnyH_ready (rs:=[2]) (by kernel_rfl) (by simp) ?_;refine CE 2 13 (.slice (some ⟨v.heap.size+1,0,none⟩) 16 16) rfl rfl (by kernel_rfl) ((MT rfl).trans (by rw[HS2.out])) ((hS.alloc _).alloc _) ?_ AllReadyH.nil;refine Br 3 14 (.agg (nvB y (v.heap.size+1)).cells.toArray) rfl rfl (by kernel_rfl) (by kernel_rfl) (by kernel_rfl) (λ_ _ _ h=>h) (by kernel_rfl) (λv' _=>Eh 121 _ rfl [(0, .int .i64 3),(2, .slice y.ba y.bn y.bc),(4, .slice (some ⟨v.heap.size+1,0,none⟩) 16 16)] (by kernel_rfl) _ (OZ _ _ _ _ _ _)) ((hS.alloc _).alloc _) ?_;refine wpAnyH_ready (rs:=[5]) (by kernel_rfl) (by simp) ?_;refine DF 5 rfl rfl (by kernel_rfl) (D1 121 _ _ rfl (v.heap.size) (nvB y (v.heap.size+1)).cells.toArray (by kernel_rfl) (by kernel_rfl) 121 nz.cells.toArray HROWB.out (Cm rfl) (Cg rfl) (all_oneCell_toArray (NV.one _))) ?_ ?_ AllReadyH.nil
  ·exact DT ((hS.alloc _).alloc _) (by have:=HPB.out.sz;omega)
  refine wpAnyH_done (by kernel_rfl) ?_ _
  go_frame
  go_wp2_with fail
  go_meet
  refine⟨v.heap.size+1,v.heap.size,rfl,?_⟩;exact HBKB.out
 case rest=>
  obtain⟨gk,gn,rfl,BK⟩:=hcut;have HBK:=Aa BK;clear BK HPB HSZ;go_wp2_with fail
  go_loopw [17] (λs17 u=>∃j:Nat,j<=16/\s17= .int .i64 j/\∃(ys:List RV)(rs:List PR),kidsP (ts.take j)=some rs/\ys.length=j/\Bk w u y gk gn (ys++List.replicate (16-j) rz)/\RefsAt (Own (w.heap.size+4) u) u ys rs) (λs17 _=>16-(intOf s17).toNat)
  case atStart=>exact⟨0,by omega,rfl,[],[],rfl,rfl,HBK.out,rfl,(λy hy=>by cases hy),λi y r h=>by simp at h⟩
  case round=>
   obtain⟨j,hj,rfl,ys,rs,hkp,hyl,BK,hra⟩:=hrel;have HKP:=Aa hkp;have HYL:=Aa hyl;have HB:=Aa BK;have HRA:=Aa hra;clear hkp hyl BK hra HBK;by_cases hlt:j<16
   ·have hji:(j:Int)<16:=(by omega);obtain⟨t,ht⟩:∃t,ts[j]?=some t:=⟨_,List.getElem?_eq_getElem (by rw[H16.out];exact hlt)⟩;obtain⟨g,off,x,A⟩:=Eb HALL.out j t ht;rw[Nat.zero_add]at A;have ha:=A.ha;subst ha;have y0:=AS HB.out.bel A.c0;have y1:=AS HB.out.bel A.c1;have y2:=AS HB.out.bel A.c2;have HA:=Aa A;have HT:=Aa ht;clear A ht;go_upto_region 5 with fail;refine gen_w (p:=λv=>Code.wp _ _ _ _ v) (q:=λv=>B1 wr.heap.size v x/\Below wr.heap.size wr v) ⟨E9 wr x,below_new wr _⟩ ?_;rintro v1⟨B,hb⟩;have c0:=B.c0;have c1:=B.c1;have c2:=B.c2;have HB1:=Aa (HB.out.go hb);have HRA1:=Aa (QH HRA.out hb);have HRO:=Aa (MM t x v1 (Cl (below_go HB.out.bel hb) t x HA.out.li));clear B hb y0 y1 y2 HB HRA;go_wp2_with fail;refine HRO.out.mono ?_;intro e w2 hp;obtain⟨hb2,hp⟩:=hp;have HB2:=Aa (HB1.out.go hb2);have HRA2:=Aa (QH HRA1.out hb2);have HV1:=Aa HB1.out.sz;cases hq:refOfP t with
    |none=>
     rw[hq]at hp;obtain⟨r',hl',rfl⟩:=hp;have HL:=Aa hl';have hr:=HRES.out;rw[MU (List.mem_of_getElem? HT.out) hq]at hr;subst hr;clear hb2 hq hl' c0 c1 c2 HRO;go_upto_region 6 with(first|refine wpList_store_row rfl 118 _ _ rfl _ r'.cells.toArray rfl rfl 118 _ (heap_alloc_new _ _) (CD HL.out) (CL HL.out) (all_oneCell_toArray (RV.one _)) ?_);refine gen_w (p:=λv=>Code.wp _ _ _ _ v) (q:=λv=>Bk w v y gk gn (ys++List.replicate (16-j) rz)) (HB2.out.go (Below.setRow (below_new w2 _) (Nat.le_refl _) _)) ?_;intro v3 B3;have HB3:=Aa B3;clear B3;go_wp2_with (first|refine wpList_store_row rfl 121 _ _ rfl _ nz.cells.toArray rfl rfl 121 _ HB3.out.row (Cm rfl) (Cg rfl) (all_oneCell_toArray (NV.one _)) ?_);refine bodyPost_ret (BX results143 _ _ (w.heap.size+1) nz rfl rfl (setRow_heap _ _ _ _ _ _ HB3.out.row)) rfl ?_;exact⟨Below.setRow HB3.out.bel (by omega) _,nz,rfl,rfl⟩
    |some r=>
     rw[hq]at hp;obtain⟨r',rfl,hy'⟩:=hp;have HL:=Aa hy'.len;have HYR:=Aa hy';have HKS:=Aa (show kidsP (ts.take (j+1))=some (rs++[r])from by rw[List.take_add_one,HT.out];exact MV HKP.out hq);clear hb2 hq hy' c0 c1 c2 HRO;go_upto_region 6 with(first|refine wpList_store_row rfl 118 _ _ rfl _ r'.cells.toArray rfl rfl 118 _ (heap_alloc_new _ _) (CD HL.out) (CL HL.out) (all_oneCell_toArray (RV.one _)) ?_);refine gen_w (p:=λv=>Code.wp _ _ _ _ v) (q:=λv=>RBx w2.heap.size v r'/\Bk w v y gk gn (ys++List.replicate (16-j) rz)/\RefsAt (Own (w.heap.size+4) v) v (ys++[r']) (rs++[r])) ⟨⟨setRow_heap _ _ _ _ _ _ (heap_alloc_new _ _),HL.out⟩,HB2.out.go (Below.setRow (below_new w2 _) (Nat.le_refl _) _),?_⟩ ?_
     ·have hbz:=Below.setRow (below_new w2 (.cells rz.cells.toArray 118)) (Nat.le_refl _) r'.cells.toArray;exact(QH HRA2.out hbz).snoc (HYR.out.go (Keep.own hbz HV1.out))
     rintro v3⟨BR,B3,R3⟩;have c37:=B3.nb.c37;have HBR:=Aa BR;have HB3:=Aa B3;have HR3:=Aa R3;have HZR:=Aa (show List.replicate (16-j) rz=rz::List.replicate (16-(j+1)) rz from by rw[show 16-j=(16-(j+1))+1 from by omega,List.replicate_succ]);have hkr:=B3.kr;rw[HZR.out]at hkr;have HKR:=Aa hkr;have HPRE:=Aa (show∀x∈ys,x.d.length=32 from λx hx=>R3.2.1 x (List.mem_append_left _ hx))
     have HFIT:=Aa (show j*34+34<=(flatR (ys++rz::List.replicate (16-(j+1)) rz)).toArray.size from by
      rw[List.size_toArray,FD (λx hx=>by
       rcases List.mem_append.1 hx with hx|hx
       ·exact HPRE.out x hx
       ·rcases List.mem_cons.1 hx with rfl|hx
        ·rfl
        ·rw[(List.mem_replicate.1 hx).2];rfl)]
      have:=HYL.out;simp;omega)
     clear BR B3 R3 hkr;rw[show(nvB y gk).ka=some ⟨gk,0,none⟩from rfl,show(nvB y gk).kn=16 from rfl,show(nvB y gk).kc=16 from rfl]at c37;go_upto_region 9 with(first|refine C3 rfl _ rfl w2.heap.size 0 rfl r' HL.out HBR.out.all ?_|refine Pw rfl _ _ rfl gk (j*34) r' HL.out rfl rfl 118 _ HKR.out HFIT.out ?_);refine gen_w (p:=λv=>Code.wp _ _ _ _ v) (q:=λv=>Bk w v y gk gn ((ys++[r'])++List.replicate (16-(j+1)) rz)/\RefsAt (Own (w.heap.size+4) v) v (ys++[r']) (rs++[r])) ?_ ?_
     ·have hf:=W4 (pre:=ys) (z:=rz) (y:=r') (post:=List.replicate (16-(j+1)) rz) HPRE.out rfl;rw[HYL.out]at hf;rw[hf,show ys++r'::List.replicate (16-(j+1)) rz=(ys++[r'])++List.replicate (16-(j+1)) rz from by simp];exact⟨HB3.out.put,HR3.out.go (Keep.setRow (base:=w.heap.size+4) (base':=w.heap.size+4) (g:=gk) (by have:=HB3.out.gk2;omega) (Nat.le_refl _))⟩
     rintro v4⟨B4,R4⟩;have HB4:=Aa B4;have HR4:=Aa R4;clear B4 R4 c37;go_wp2_with fail;exact⟨⟨j+1,by omega,by simp,ys++[r'],rs++[r],HKS.out,by have:=HYL.out;simp;omega,HB4.out,HR4.out⟩,by simp[intOf];omega⟩
   ·have hji:¬(j:Int)<16:=(by omega);have hj16:j=16:=(by omega);subst hj16;have hkp:=HKP.out;rw[List.take_of_length_le (by rw[H16.out];omega)]at hkp;have hr:=HRES.out;rw[hkp]at hr;have hr:(if y.l=true then none else some (⟨3,[],bs2,r0,rs⟩:PN))=res:=hr;have HR:=Aa hr;have hB:=HB.out;rw[show ys++List.replicate (16-16) rz=ys from by simp]at hB;have HBF:=Aa hB;clear hkp hr hB HB hj;go_upto_region 10 with fail;rename_i KK hkk;refine wp_region_held_drew (S:=λv=>NBx gn v (nvB y gk)/\B1 w.heap.size v y) (by kernel_rfl) ⟨⟨HBF.out.nb.row,HBF.out.nb.l⟩,HBF.out.bx.c0,HBF.out.bx.c1,HBF.out.bx.c2⟩ (λhS=>?_);refine Br 0 36 (.agg (nvB y gk).cells.toArray) rfl rfl (by kernel_rfl) (by kernel_rfl) (by kernel_rfl) (λ_ _ _ h=>h) (by kernel_rfl) (λv hv=>TF rfl (by kernel_rfl) hv.1) hS ?_;refine Br 1 37 (.pointer (some ⟨w.heap.size,0,none⟩)) rfl rfl (by kernel_rfl) (by kernel_rfl) (by kernel_rfl) (λ_ _ _ h=>h) (by kernel_rfl) (λv _=>by kernel_rfl) hS ?_;refine Br 2 38 (.bool y.l) rfl rfl (by kernel_rfl) (by kernel_rfl) (by kernel_rfl) (λ_ _ _ h=>h) (by kernel_rfl) (λv hv=>OY rfl (by kernel_rfl) hv.2.c0) hS ?_;refine Br 3 39 (.bool (!y.l)) rfl rfl (by kernel_rfl) (by kernel_rfl) (by kernel_rfl) (λ_ _ _ h=>h) (by kernel_rfl) (λv _=>by kernel_rfl) hS ?_;refine wpAnyH_ready (rs:=[4]) (by kernel_rfl) (by simp) ?_;refine DF 4 rfl rfl (by kernel_rfl) (D1 121 _ _ rfl (w.heap.size+1) (nvB y gk).cells.toArray (by kernel_rfl) (by kernel_rfl) 121 nz.cells.toArray HBF.out.row (Cm rfl) (Cg rfl) (all_oneCell_toArray (NV.one _))) ?_ ?_ AllReadyH.nil
    ·exact⟨⟨(setRow_other _ _ _ _ (by have:=HBF.out.gn2;omega)).trans hS.1.row,hS.1.l⟩,DT hS.2 (by omega)⟩
    refine Br 5 5 (.bool (!y.l)) rfl rfl (by kernel_rfl) (by kernel_rfl) (by kernel_rfl) (λ_ _ _ h=>h) (by kernel_rfl) (λv _=>by kernel_rfl) ⟨⟨(setRow_other _ _ _ _ (by have:=HBF.out.gn2;omega)).trans hS.1.row,hS.1.l⟩,DT hS.2 (by omega)⟩ ?_;refine wpAnyH_done (by kernel_rfl) ?_ _;refine hkk _ _ ?_;refine Gr results143 (λh=>h) (w.heap.size+1) (nvB y gk) (.bool (!y.l)) rfl (by kernel_rfl) (by kernel_rfl) (by kernel_rfl) (setRow_heap _ _ _ _ _ _ HBF.out.row) ?_;refine⟨Below.setRow HBF.out.bel.drew (by omega) _,?_⟩;have hr:=HR.out;cases hyl:y.l with
    |true=>
     rw[hyl,if_pos rfl]at hr;subst hr;exact⟨nvB y gk,rfl,rfl⟩
    |false=>
     rw[hyl,if_neg (by simp)]at hr;subst hr;have hkr:(wr.drew.setRow (w.heap.size+1) (nvB y gk).cells.toArray).heap[gk]?=some (.cells (flatR ys).toArray 118):=(setRow_other _ _ _ _ (by have:=HBF.out.gk2;omega)).trans HBF.out.kr
     have hk1:Keep (Own (w.heap.size+4) wr) (OwnP P (wr.drew.setRow (w.heap.size+1) (nvB y gk).cells.toArray)) wr (wr.drew.setRow (w.heap.size+1) (nvB y gk).cells.toArray):=
      Keep.setRowP (v:=wr.drew) (base:=w.heap.size+4) (by omega) (λk hk=>HBASE.out k (by omega))
     have hk2:Keep (OwnP P w) (OwnP P (wr.drew.setRow (w.heap.size+1) (nvB y gk).cells.toArray)) w (wr.drew.setRow (w.heap.size+1) (nvB y gk).cells.toArray):=λk hK hk=>by
      have e:(wr.drew.setRow (w.heap.size+1) (nvB y gk).cells.toArray).heap[k]?=w.heap[k]?:=(setRow_other _ _ _ _ (by omega)).trans (HBF.out.bel.block k hk);exact⟨e,hK.1,λo=>(World.frozen?_of_block (w:=w) e).trans (hK.2 o)⟩
     have hra:=HRA.out.go hk1;have hrl:rs.length=16:=(by rw[hra.1,HYL.out]);refine⟨nvB y gk,rfl,rfl,Fx _ _,(Ik HY.out).go hk2,Ff _ _,⟨hrl.symm,Nat.le_refl _,by show 16<=maxLen;unfold maxLen;omega,by show 16<=2199023255488;omega,λh=>by cases h⟩,?_⟩;exact QG hkr ⟨HBASE.out gk (by have:=HBF.out.gk2;omega),λo=>frozen_of_row _ _ _ _ _ hkr⟩ hra
structure AtP(P:Θ)(w:Γ)(a:Ω)(k:Nat)(t:T)(g off:Nat)(y:V):Prop where
 ha:a=some ⟨g,off,none⟩
 c0:w.cell? ⟨g,off+k*3,none⟩=some (β y.l)
 c1:w.cell? ⟨g,off+k*3+1,none⟩=some (σ y.ba y.bn y.bc)
 c2:w.cell? ⟨g,off+k*3+2,none⟩=some (σ y.ia y.m y.ic)
 li:LiesP P w t y
theorem DG{P:Θ}{w:Γ}{a:Ω}:∀{its:List T}{k:Nat},LiesPAll P w its a k->∀(i:Nat)(t:T),its[i]?=some t->∃g off y,AtP P w a (k+i) t g off y
 |[],k,_,i,t,h=>by simp at h
 |x::r,k,c,i,t,h=>by
  obtain⟨⟨g,off,y,⟨j,_⟩,d,m,e,l⟩,f⟩:=liesPAll_cons.1 c;cases i with
  |zero=>simp at h;subst h;exact⟨g,off,y,j,d,m,e,l⟩
  |succ i=>
   obtain⟨g',b,n,A⟩:=DG f i t (by simpa using h);rw[show k+1+i=k+(i+1)from by omega]at A;exact⟨g',b,n,A⟩
theorem J3{w:Γ}{a:Ω}:∀{its:List T}{k:Nat}(n:Nat),LiesAll w its a k->LiesAll w (its.take n) a k
 |_,_,0,_=>by rw[BM];exact Ds
 |[],_,n+1,_=>by rw[List.take_nil];exact Ds
 |x::r,k,n+1,h=>by
  rw[CF];obtain⟨b,c⟩:=liesAll_cons.1 h;exact liesAll_cons.2 ⟨b,J3 n c⟩
theorem J4{w w':Γ}(b:Λ w w'){a:Ω}:∀{its:List T}{k:Nat},LiesAll w its a k->LiesAll w' its a k
 |[],_,_=>Ds
 |t::r,k,h=>by
  obtain⟨⟨g,off,y,f,c,j,d,i⟩,e⟩:=liesAll_cons.1 h;exact liesAll_cons.2 ⟨⟨g,off,y,f,AS b c,AS b j,AS b d,Cl b t y i⟩,J4 b e⟩
theorem Ku{P:Θ}{o:Option PN}{e:Ending}(h:NPost P w o e w'):∃v,e=ω v/\(Λ w w'/\∃(y:NV)(b:Bool),y.c.d.length=32/\v=θ #[γ y.cells.toArray,β b]/\b=o.isSome/\∀n,o=some n->NodeAt (OwnP P w') w' y n):=by
 obtain⟨d,c⟩:=h;cases o with
 |none=>
  obtain⟨y,g,a⟩:=c;exact⟨_,a,d,y,false,g,rfl,rfl,λn h=>by cases h⟩
 |some n=>
  obtain⟨y,a,f⟩:=c;exact⟨_,a,d,y,true,f.c.len,rfl,rfl,λm h=>by cases h;exact f⟩
section
variable {a : Act} {w : World}
theorem QI{x:Operand}{g off m c:Nat}{o:Oper}(b:o.op= .slice 106 x none (some (.const (ι 16))) none)(d:a.eval x=σ (ζ g off) m c)(h:16<=c)(f:c<=9223372036854775807):(execOp a.eval o).run prog w= .ok (.value (σ (ζ g off) 16 c)) w:=by
 have e:(16:Int)<=c:=by omega
 unfold execOp;rw[b];simp only[d,Option.map];go_simp
end
theorem QJ(base:Nat)(t:T)(x:V)(w:Γ)(h:LiesP (λb=>base<=b) w t x)(G:base<=w.heap.size)(X:∀u∈t.its,u.bs.length<=16777216):
 Calls prog 98 #[γ #[β x.l,σ x.ba x.bn x.bc,σ x.ia x.m x.ic]] w (NPost (λg=>base<=g) w (nodeOfP t)):=by
 obtain⟨l,bs,its⟩:=t;have X:∀u∈its,u.bs.length<=16777216:=X;have hq:LiesP (λg=>base<=g/\g≠w.heap.size+1) w (.mk l bs its) x:=BD (λb G Z=>⟨rfl,G,by omega⟩) _ x h;obtain⟨⟨hl,-,hm,ax,av,-⟩,ai⟩:=liesP_eq.1 hq;have af:=(lies_eq.1 (CS _ _ hq)).2.2.2.2.2.2;unfold maxLen at av;subst hl;have HM:=Aa hm;have ab:=Aa ai;have az:=Aa af;have ay:=Aa X;obtain⟨F,K⟩:∃F,nodeOfP (.mk x.l bs its)=F:=⟨_,rfl⟩;rw[K];have K:(if its.length=2 then pathP (its.getD 0 t0) (its.getD 1 t0)else if its.length=17 then branchP (its.take 16) (its.getD 16 t0)else none)=F:=K;rw[<-hm]at K;have ac:=Aa K;have aj:=Aa (W5 w x);have aq:=Aa G;clear h G X hq hm ai af K;go_enter func98,ntmps98;go_upto_region 1 with fail;refine gen_w (p:=λv=>Code.wp _ _ _ _ v) (q:=λv=>Pb w v x) aj.out ?_;clear aj;intro v P0;have c2:=P0.bx.c2;have z:=Aa P0;clear P0;have aa:=Aa (show∀w',Below v.drew.heap.size v.drew w'->B1 w.heap.size w' x/\Λ w w' from λw' G=>⟨z.out.bx.go (below_go (Ac _ _).drew G),below_go z.out.bel.drew G⟩);have Y:=Aa (show∀(w':Γ)(C:Ξ),B1 w.heap.size w' x/\Λ w w'->B1 w.heap.size (w'.setRow (w.heap.size+1) C) x/\Λ w (w'.setRow (w.heap.size+1) C)from λw' C h=>⟨DT h.1 (by omega),Below.setRow h.2 (by omega) _⟩);have al:=Aa (show B1 w.heap.size v.drew x/\Λ w v.drew from⟨⟨z.out.bx.c0,z.out.bx.c1,z.out.bx.c2⟩,z.out.bel.drew⟩)
 have ah:=Aa (show∀(s:Γ)(f:NV)(b:Bool),f.c.d.length=32->b=F.isSome->(∀n,F=some n->NodeAt (OwnP (λg=>base<=g/\g≠w.heap.size+1) s) s f n)->B1 w.heap.size s x/\Λ w s->NPost (λg=>base<=g) w F (ω (θ #[γ f.cells.toArray,β b])) (s.setRow (w.heap.size+1) f.cells.toArray)from λs f b E U Q r=>by
  refine⟨Below.setRow r.2 (by omega) _,?_⟩;subst U;cases F with
  |none=>exact⟨f,E,rfl⟩
  |some n=>
   refine⟨f,rfl,(Q n rfl).go λk hK hk=>?_⟩;have e:(s.setRow (w.heap.size+1) f.cells.toArray).heap[k]?=s.heap[k]?:=Bc _ _ _ _ hK.1.2;exact⟨e,hK.1.1,λo=>(Cb (w:=s) e).trans (hK.2 o)⟩)
 have ao:=Aa (show∀g,v.drew.heap.size<=g->(base<=g/\g≠w.heap.size+1)from λg hg=>by
  have h1:v.heap.size<=g:=hg;have:=z.out.sz;have:=aq.out;omega)
 by_cases I:x.m=2
 ·have H:=ac.out;rw[Ai I]at H;have aw:its.length=2:=by rw[<-HM.out,I]
  rw[I]at c2;obtain⟨g,off,A,A0⟩:=DG ab.out 0 (its.getD 0 t0) (by rw[List.getD,Ad (by omega)];rfl);obtain⟨g1,a1,a,J⟩:=DG ab.out 1 (its.getD 1 t0) (by rw[List.getD,Ad (by omega)];rfl);have ha:=J.ha;rw[A0.ha]at ha;cases ha;have ak:=Aa (ay.out _ (FB (l:=its) (i:=0) (by omega)));have N:=A0.ha;rw[N]at c2;have M:=Aa A0;have B:=Aa J;have HR:=Aa H;have a2:=Aa c2;generalize its.getD 0 t0=tt0 at M ak HR;generalize its.getD 1 t0=tt1 at B HR;clear aw N A0 J H;go_upto_region 3 with fail;rename_i KK ad;refine Cj (S:=λv'=>B1 w.heap.size v' x/\Λ w v') (by kernel_rfl) al.out (λr=>?_);have O:∀v',B1 w.heap.size v' x->v'.cell? ⟨w.heap.size,2,none⟩=some (σ (ζ g off) 2 x.ic):=λv' d=>by have:=d.c2;rwa [M.out.ha,I]at this
  refine Br 0 9 (.pointer (some ⟨w.heap.size,2,none⟩)) rfl rfl (by kernel_rfl) (by kernel_rfl) (by kernel_rfl) (λ_ _ _ h=>h) (by kernel_rfl) (λv _=>by kernel_rfl) r<|Br 1 10 (σ (ζ g off) 2 x.ic) rfl rfl (by kernel_rfl) (by kernel_rfl) (by kernel_rfl) (λ_ _ _ h=>h) (by kernel_rfl) (λv' d=>CQ rfl (by kernel_rfl) (O v' d.1)) r<|Br 2 11 (ψ g (off+(0+0)*3)) rfl rfl (by kernel_rfl) (by kernel_rfl) (by kernel_rfl) (λ_ _ _ h=>h) (by kernel_rfl) (λv' _=>ER (j:=0+0) (m:=2) (c:=x.ic) rfl (by kernel_rfl) (by kernel_rfl) (by omega)) r<|Br 3 12 (γ #[β A.l,σ A.ba A.bn A.bc,σ A.ia A.m A.ic]) rfl rfl (by kernel_rfl) (by kernel_rfl) (by kernel_rfl) (λ_ _ _ h=>h) (by kernel_rfl) (λv' d=>GN rfl (by kernel_rfl) (AS d.2 M.out.c0) (AS d.2 M.out.c1) (AS d.2 M.out.c2)) r<|Br 4 13 (.pointer (some ⟨w.heap.size,2,none⟩)) rfl rfl (by kernel_rfl) (by kernel_rfl) (by kernel_rfl) (λ_ _ _ h=>h) (by kernel_rfl) (λv _=>by kernel_rfl) r<|Br 5 14 (σ (ζ g off) 2 x.ic) rfl rfl (by kernel_rfl) (by kernel_rfl) (by kernel_rfl) (λ_ _ _ h=>h) (by kernel_rfl) (λv' d=>CQ rfl (by kernel_rfl) (O v' d.1)) r<|Br 6 15 (ψ g (off+(0+1)*3)) rfl rfl (by kernel_rfl) (by kernel_rfl) (by kernel_rfl) (λ_ _ _ h=>h) (by kernel_rfl) (λv' _=>ER (j:=0+1) (m:=2) (c:=x.ic) rfl (by kernel_rfl) (by kernel_rfl) (by omega)) r<|Br 7 16 (γ #[β a.l,σ a.ba a.bn a.bc,σ a.ia a.m a.ic]) rfl rfl (by kernel_rfl) (by kernel_rfl) (by kernel_rfl) (λ_ _ _ h=>h) (by kernel_rfl) (λv' d=>GN rfl (by kernel_rfl) (AS d.2 B.out.c0) (AS d.2 B.out.c1) (AS d.2 B.out.c2)) r<|AD (rs:=[8]) (by kernel_rfl) (by simp) ?_;refine Es 8 17 rfl rfl (by kernel_rfl) 142 #[γ #[β A.l,σ A.ba A.bn A.bc,σ A.ia A.m A.ic],γ #[β a.l,σ a.ba a.bn a.bc,σ a.ia a.m a.ic]] (by kernel_rfl) (R:=λval w'=>Below v.drew.heap.size v.drew w'/\∃(y:NV)(b:Bool),y.c.d.length=32/\val=θ #[γ y.cells.toArray,β b]/\b=F.isSome/\∀n,F=some n->NodeAt (OwnP (λg=>base<=g/\g≠w.heap.size+1) w') w' y n) (by rw[<-HR.out];exact(Og (λg=>base<=g/\g≠w.heap.size+1) tt0 tt1 A a v.drew (Cl z.out.bel.drew _ _ (CS _ _ M.out.li)) (BD (λb G Z=>⟨z.out.bel.drew.block b Z,G⟩) _ _ B.out.li) ao.out ak.out).mono (λe w' h=>Ku h)) (λval w' h=>aa.out w' h.1) ?_ AB;rintro val s⟨W,f,b,E,rfl,U,Q⟩;have D:=aa.out s W;have P:s.heap[w.heap.size+1]?=some (.cells nz.cells.toArray 121):=Below.row W z.out.row;refine Br 9 18 (γ f.cells.toArray) rfl rfl (by kernel_rfl) (by kernel_rfl) (by kernel_rfl) (λ_ _ _ h=>h) (by kernel_rfl) (λv _=>by kernel_rfl) D<|Br 10 19 (β b) rfl rfl (by kernel_rfl) (by kernel_rfl) (by kernel_rfl) (λ_ _ _ h=>h) (by kernel_rfl) (λv _=>by kernel_rfl) D<|AD (rs:=[11]) (by kernel_rfl) (by simp) ?_;refine DF 11 rfl rfl (by kernel_rfl) (D1 121 _ _ rfl (w.heap.size+1) f.cells.toArray (by kernel_rfl) (by kernel_rfl) 121 nz.cells.toArray P (Cm E) (Cg E) (Am (NV.one _))) (Y.out _ _ D) ?_ AB;refine Br 12 3 (β b) rfl rfl (by kernel_rfl) (by kernel_rfl) (by kernel_rfl) (λ_ _ _ h=>h) (by kernel_rfl) (λv _=>by kernel_rfl) (Y.out _ _ D) ?_;refine Cq (by kernel_rfl) ?_ _;refine ad _ _<|Gr results98 (λh=>h) (w.heap.size+1) f (β b) E (by kernel_rfl) (by kernel_rfl) (by kernel_rfl) (AC _ _ _ _ _ _ P) ?_;exact ah.out s f b E U Q D
 ·by_cases L:x.m=17
  ·have H:=ac.out;rw[Ae I,Ai L]at H;have ar:its.length=17:=(by rw[<-HM.out,L]);rw[L]at c2 ax;obtain⟨g,off,a,J⟩:=DG ab.out 16 (its.getD 16 t0) (by rw[List.getD,Ad (by omega)];rfl);have N:=J.ha;rw[N]at c2;have B:=Aa J;have HR:=Aa H;have ae:=J3 16 az.out;rw[N]at ae;have am:=Aa ae;have ap:=Aa (show(its.take 16).length=16 from by rw[Ap];omega);have a0:=Aa L;generalize its.getD 16 t0=tt1 at B HR;generalize its.take 16=tts at am ap HR;clear ar N J H ae L I;go_upto_region 5 with fail;rename_i KK ad;refine Cj (S:=λv'=>B1 w.heap.size v' x/\Λ w v') (by kernel_rfl) al.out (λr=>?_);have O:∀v',B1 w.heap.size v' x->v'.cell? ⟨w.heap.size,2,none⟩=some (σ (ζ g off) 17 x.ic):=λv' d=>by have:=d.c2;rwa [B.out.ha,a0.out]at this
   refine Br 0 22 (.pointer (some ⟨w.heap.size,2,none⟩)) rfl rfl (by kernel_rfl) (by kernel_rfl) (by kernel_rfl) (λ_ _ _ h=>h) (by kernel_rfl) (λv _=>by kernel_rfl) r<|Br 1 23 (σ (ζ g off) 17 x.ic) rfl rfl (by kernel_rfl) (by kernel_rfl) (by kernel_rfl) (λ_ _ _ h=>h) (by kernel_rfl) (λv' d=>CQ rfl (by kernel_rfl) (O v' d.1)) r<|Br 2 24 (σ (ζ g off) 16 x.ic) rfl rfl (by kernel_rfl) (by kernel_rfl) (by kernel_rfl) (λ_ _ _ h=>h) (by kernel_rfl) (λv' _=>QI (m:=17) rfl (by kernel_rfl) (by omega) (by omega)) r<|Br 3 25 (.pointer (some ⟨w.heap.size,2,none⟩)) rfl rfl (by kernel_rfl) (by kernel_rfl) (by kernel_rfl) (λ_ _ _ h=>h) (by kernel_rfl) (λv _=>by kernel_rfl) r<|Br 4 26 (σ (ζ g off) 17 x.ic) rfl rfl (by kernel_rfl) (by kernel_rfl) (by kernel_rfl) (λ_ _ _ h=>h) (by kernel_rfl) (λv' d=>CQ rfl (by kernel_rfl) (O v' d.1)) r<|Br 5 27 (ψ g (off+(0+16)*3)) rfl rfl (by kernel_rfl) (by kernel_rfl) (by kernel_rfl) (λ_ _ _ h=>h) (by kernel_rfl) (λv' _=>ER (j:=0+16) (m:=17) (c:=x.ic) rfl (by kernel_rfl) (by kernel_rfl) (by omega)) r<|Br 6 28 (γ #[β a.l,σ a.ba a.bn a.bc,σ a.ia a.m a.ic]) rfl rfl (by kernel_rfl) (by kernel_rfl) (by kernel_rfl) (λ_ _ _ h=>h) (by kernel_rfl) (λv' d=>GN rfl (by kernel_rfl) (AS d.2 B.out.c0) (AS d.2 B.out.c1) (AS d.2 B.out.c2)) r<|AD (rs:=[7]) (by kernel_rfl) (by simp) ?_;refine Es 7 29 rfl rfl (by kernel_rfl) 143 #[σ (ζ g off) 16 x.ic,γ #[β a.l,σ a.ba a.bn a.bc,σ a.ia a.m a.ic]] (by kernel_rfl) (R:=λval w'=>Below v.drew.heap.size v.drew w'/\∃(y:NV)(b:Bool),y.c.d.length=32/\val=θ #[γ y.cells.toArray,β b]/\b=F.isSome/\∀n,F=some n->NodeAt (OwnP (λg=>base<=g/\g≠w.heap.size+1) w') w' y n) (by rw[<-HR.out];exact(LO (λg=>base<=g/\g≠w.heap.size+1) tts (ζ g off) x.ic tt1 a v.drew ap.out (J4 z.out.bel.drew am.out) ⟨by omega,by unfold maxLen;omega⟩ (BD (λb G Z=>⟨z.out.bel.drew.block b Z,G⟩) _ _ B.out.li) ao.out).mono (λe w' h=>Ku h)) (λval w' h=>aa.out w' h.1) ?_ AB;rintro val s⟨W,f,b,E,rfl,U,Q⟩;have D:=aa.out s W;have P:s.heap[w.heap.size+1]?=some (.cells nz.cells.toArray 121):=Below.row W z.out.row;refine Br 8 30 (γ f.cells.toArray) rfl rfl (by kernel_rfl) (by kernel_rfl) (by kernel_rfl) (λ_ _ _ h=>h) (by kernel_rfl) (λv _=>by kernel_rfl) D<|Br 9 31 (β b) rfl rfl (by kernel_rfl) (by kernel_rfl) (by kernel_rfl) (λ_ _ _ h=>h) (by kernel_rfl) (λv _=>by kernel_rfl) D<|AD (rs:=[10]) (by kernel_rfl) (by simp) ?_;refine DF 10 rfl rfl (by kernel_rfl) (D1 121 _ _ rfl (w.heap.size+1) f.cells.toArray (by kernel_rfl) (by kernel_rfl) 121 nz.cells.toArray P (Cm E) (Cg E) (Am (NV.one _))) (Y.out _ _ D) ?_ AB;refine Br 11 3 (β b) rfl rfl (by kernel_rfl) (by kernel_rfl) (by kernel_rfl) (λ_ _ _ h=>h) (by kernel_rfl) (λv _=>by kernel_rfl) (Y.out _ _ D) ?_;refine Cq (by kernel_rfl) ?_ _;refine ad _ _<|Gr results98 (λh=>h) (w.heap.size+1) f (β b) E (by kernel_rfl) (by kernel_rfl) (by kernel_rfl) (AC _ _ _ _ _ _ P) ?_;exact ah.out s f b E U Q D
  ·have H:=ac.out;rw[Ae I,Ae L]at H;subst H;have e2:((x.m:Int)==2)=false:=(by rw[Bo];omega);have a3:((x.m:Int)==17)=false:=(by rw[Bo];omega);go_wp2_with (first|refine A5 rfl 121 _ _ rfl _ nz.cells.toArray rfl rfl 121 _ z.out.row (Cm rfl) (Cg rfl) (Am (NV.one _)) ?_);refine Aq (BX results98 _ _ (w.heap.size+1) nz rfl rfl (AC _ _ _ _ _ _ z.out.row)) rfl ?_;exact⟨Below.setRow z.out.bel (by omega) _,nz,rfl,rfl⟩
end
end Go.Proofs.YtkdlocloepbmcaaGreat
