/- A row of items as a list in memory; what Text answers. -/
import Derived.Test.YtkdlocloepbmcaaGreatG04
set_option linter.unusedVariables false
set_option linter.unusedSimpArgs false
set_option maxRecDepth 100000
set_option maxHeartbeats 2000000
open Go.Proofs.Tryz Go.RowKit
namespace Go.Proofs.YtkdlocloepbmcaaGreat
section
variable {P : Nat → Prop} {w : World} {base g m : Nat} {ys : List V} {fn : Func} {p u : Tmp} {b r : List Int} {deep : Bool} {x : Int}
def AllP(P:Θ)(w:Γ):List T->List V->Prop
 |[],[]=>True
 |t::ts,y::ys=>LiesP P w t y/\AllP P w ts ys
 |_,_=>False
theorem AllP.len{P:Θ}{w:Γ}:∀{ts:List T}{ys:List V},AllP P w ts ys->ts.length=ys.length
 |[],[],_=>rfl
 |t::ts,y::ys,h=>by have:=AllP.len h.2;simp[this]
theorem AllP.mono{P Q:Θ}{w w':Γ}(a:∀b,P b->b<w.heap.size->w'.heap[b]?=w.heap[b]?/\Q b):∀{ts:List T}{ys:List V},AllP P w ts ys->AllP Q w' ts ys
 |[],[],_=>trivial
 |t::ts,y::ys,h=>⟨BD a t y h.1,AllP.mono a h.2⟩
theorem AllP.snoc{P:Θ}{w:Γ}{t:T}{y:V}(a:LiesP P w t y):∀{ts:List T}{ys:List V},AllP P w ts ys->AllP P w (ts++[t]) (ys++[y])
 |[],[],_=>⟨a,trivial⟩
 |_::ts,_::ys,h=>⟨h.1,AllP.snoc a h.2⟩
theorem Fj(pre:List V)(y:V)(ys:List V)(j:Nat)(u:Δ)(h:(V.cells y)[j]?=some u):((pre++y::ys).flatMap V.cells)[pre.length*3+j]?=some u:=by
 rw[C7,Bn (by rw[Gj];omega),Gj,Nat.add_sub_cancel_left,Cp,Bg (Ar.1 h).1,h]
theorem OQ{P:Θ}{w:Γ}{g:Nat}{all:List V}(a:∀j u,(all.flatMap V.cells)[j]?=some u->w.cell? ((⟨g,0,none⟩:Addr).add j)=some u)(b:P g):
 ∀(ts:List T)(ys pre:List V),all=pre++ys->AllP P w ts ys->LiesPAll P w ts (ζ g 0) pre.length
 |[],[],pre,_,_=>Dp
 |t::ts,y::ys,pre,e,h=>by
  have c:=OQ a b ts ys (pre++[y]) (by rw[e];simp) h.2;rw[Af]at c;refine liesPAll_cons.2 ⟨⟨g,0,y,⟨rfl,b⟩,?_,?_,?_,h.1⟩,c⟩
  ·have:=a (pre.length*3+0) (β y.l) (by rw[e];exact Fj pre y ys 0 _ rfl);rw[BO]at this;simpa using this
  ·have:=a (pre.length*3+1) (σ y.ba y.bn y.bc) (by rw[e];exact Fj pre y ys 1 _ rfl);rw[BO]at this;rw[show 0+pre.length*3+1=0+(pre.length*3+1)from by omega];exact this
  ·have:=a (pre.length*3+2) (σ y.ia y.m y.ic) (by rw[e];exact Fj pre y ys 2 _ rfl);rw[BO]at this;rw[show 0+pre.length*3+2=0+(pre.length*3+2)from by omega];exact this
theorem Lv{v:Δ}{ts:List T}(b:OwnI w base v ys)(h:AllP P w ts ys)(f:∀g,v.ownBlock=some g->P g):
 ∃c a,v=σ c ts.length a/\ts.length<=a/\a<=maxLen/\LiesPAll P w ts c 0:=by
 have e:=h.len;rcases b.2 with⟨rfl,l⟩|⟨g,cap,cur,rfl,j,n,k,d,m,i⟩
 ·have:ts=[]:=Aw (by omega);subst this;exact⟨none,0,rfl,Ab _,by unfold maxLen;omega,Dp⟩
 ·exact⟨some ⟨g,0,none⟩,cap,by rw[e],by omega,d,OQ (DP b (g:=g) rfl) (f g rfl) ts ys [] rfl h⟩
theorem E4(h:fn.results=#[.cell p 108, .tmp u])(d:Ξ)(w:Γ)(g:Nat)(a b c:Δ)
 (f:d.getD p undef=π g) (i:w.heap[g]?=some (.cells #[a,b,c] 108)):
 (results fn d).run prog w= .ok (θ #[γ #[a,b,c],d.getD u undef]) w:=by
 have e:d[p]?.getD undef=π g:=by simpa using f
 simp[results,h,e,asAddr,CB (P:=prog) w g 108 108 #[a,b,c] (0,0) _ i υ108 rfl (by kernel_rfl)]
theorem Bf{v:Tmp}(h:fn.results=#[.cell p 108, .tmp u, .tmp v])(d:Ξ)(w:Γ)(g:Nat)(a b c:Δ)
 (f:d.getD p undef=π g) (i:w.heap[g]?=some (.cells #[a,b,c] 108)):
 (results fn d).run prog w= .ok (θ #[γ #[a,b,c],d.getD u undef,d.getD v undef]) w:=by
 have e:d[p]?.getD undef=π g:=by simpa using f
 simp[results,h,e,asAddr,CB (P:=prog) w g 108 108 #[a,b,c] (0,0) _ i υ108 rfl (by kernel_rfl)]
theorem put3{t:Nat}{x0 x1 x2:Δ}(h:w.heap[g]?=some (.cells #[x0,x1,x2] t))(a b c:Δ):
 (((w.setCell ⟨g,0,none⟩ a).setCell ⟨g,1,none⟩ b).setCell ⟨g,2,none⟩ c).heap[g]?=some (.cells #[a,b,c] t):=by
 have h1:=AU w g 0 _ t a h;have h2:=AU _ g 1 _ t b h1;have h3:=AU _ g 2 _ t c h2;simpa using h3
theorem Dk{k:Nat}(d:k≠g)(a b c:Δ):(((w.setCell ⟨g,0,none⟩ a).setCell ⟨g,1,none⟩ b).setCell ⟨g,2,none⟩ c).heap[k]?=w.heap[k]?:=by
 rw[AA _ _ _ _ d,AA _ _ _ _ d,AA _ _ _ _ d]
theorem Ci{B:Nat}{w0:Γ}(h:Below B w0 w)(d:B<=g)(a b c:Δ):Below B w0 (((w.setCell ⟨g,0,none⟩ a).setCell ⟨g,1,none⟩ b).setCell ⟨g,2,none⟩ c):=
 ((h.setCell d a).setCell d b).setCell d c
def z3:Ξ:=#[β false,ε,ε]
theorem Fk(a:Ω)(n c:Nat)(b:τ)(w:Γ)(h:Ag w a n c b)(z:n<=140737488351232):
 Calls prog 58 #[σ a n c] w λe w'=>e=ω (γ #[β false,σ (some ⟨w.heap.size+1,0,none⟩) n n,ε])/\Row (w.heap.size+1) w' b/\Λ w w':=by
 have y:=run_make_row' (P:=prog) 32 5 (η 0) 1 υ32 info5b rfl .i64 .i64 n (by omega) (by omega);obtain⟨w0,f⟩:∃w0,w.alloc (.cells #[β false,ε,ε] 108)=w0:=⟨_,rfl⟩;have q:w0.heap.size=w.heap.size+1:=by rw[<-f];simp
 have m:Λ w w0:=by rw[<-f];exact(Ac _ _).alloc (Ab _) _
 have l:w0.heap[w.heap.size]?=some (.cells #[β false,ε,ε] 108):=by rw[<-f];exact Ak _ _
 have p:Row w0.heap.size (w0.alloc (.cells (madeCells #[η 0] n) 5)) (List.replicate n 0):=by
  unfold Row;rw[Ak,made_bytes]
 have j:Λ w (w0.alloc (.cells (madeCells #[η 0] n) 5)):=m.alloc (by omega) _;obtain⟨w1,i,g,k⟩:=Lo (o:=0) (dl:=n) (dc:=n) (da:=some ⟨w0.heap.size,0,none⟩) p (h.at j) rfl (by simp) (λ_=>rfl);rw[BM,AH,A6,Bx (by simp),A7]at g;have d:w1.heap[w.heap.size]?=some (.cells #[β false,ε,ε] 108):=(k.block _ (by simp;omega) (by omega)).trans ((Ax _ _ _ (by omega)).trans l);have r:=Touch.below j k (by omega) j.size;rw[q]at i g;rw[<-f]at i;have u:=Aa i;have s:=Aa g;have x:=Aa r;have t:=Aa d;have x0:w1.cell? ⟨w.heap.size,0,none⟩=some (β false):=by rw[Aj _ _ _ _ _ _ d];rfl
 have x1:w1.cell? ⟨w.heap.size,1,none⟩=some (ε):=by rw[Aj _ _ _ _ _ _ d];rfl
 have x2:w1.cell? ⟨w.heap.size,2,none⟩=some (ε):=by rw[Aj _ _ _ _ _ _ d];rfl
 have xf:∀o,w1.frozen? ⟨w.heap.size,o,none⟩=false:=λo=>AN _ _ _ _ _ d;clear p i g k j h f q m l d r;go_enter func58,ntmps58;go_wp2_with (first|refine wpl_copy rfl _ _ rfl _ _ rfl rfl (u.out _) ?_);have v:=put3 t.out (β false) (σ (some ⟨w.heap.size+1,0,none⟩) n n) (ε);refine Aq (Be results58 _ _ w.heap.size 108 _ (0,0) _ rfl v υ108 rfl (by kernel_rfl)) rfl ?_;exact⟨rfl,(Dk (by omega) _ _ _).trans s.out,Ci x.out (Ab _) _ _ _⟩
def lenOf:Δ->Nat|σ _ n _=>n|_=>0
theorem Eu{w:Γ}{ops:Array Oper}{rest:List Oper}{o:Oper}{a:Act}{Q:Exit->Act->Γ->Prop}(b:o.guard=none)(s x:Operand)
 (d:o.op= .call {callee:= .builtin .append,args:=#[s,x],argTypes:=#[106,106]}) (v u:Δ) (hd:a.eval s=v) (e:a.eval x=u) {v':Δ} {w':Γ}
 (f:(Builtin.append_ #[106,106] o.type #[v,u]).run prog w= .ok v' w') (h:wpList prog ops Q rest (a.put o.dst v') w'):wpList prog ops Q (o::rest) a w:=by
 refine wpList_plain b λK c=>?_;unfold Oper.wp;simp[execOp,d,resolve,invoke,builtin,hd,e,f,Result.andThen];exact c _ _ h
def ReadPost(w:Γ)(r:R):Ending->Γ->Prop:=λe w'=>Λ w w'/\
 match r with
 | .bad er=>e=ω (θ #[γ #[β false,ε,ε],ι 0,ι (er:Nat)])/\er≠0
 | .ok t m=>∃y:V,e=ω (θ #[γ #[β y.l,σ y.ba y.bn y.bc,σ y.ia y.m y.ic],ι (m:Nat),ι 0])/\LiesP (λb=>w.heap.size<=b) w' t y
def ReadSaid(k:Nat):Prop:=∀(a:Ω)(n c d:Nat)(b:τ)(w:Γ),Ag w a n c b->d+k=8->n<=140737488351232->Calls prog 162 #[σ a n c,ι d] w (ReadPost w (rd k b))
def AllPost(w:Γ)(r:RL):Ending->Γ->Prop:=λe w'=>Λ w w'/\
 match r with
 | .bad er=>e=ω (θ #[ε,ι (er:Nat)])/\er≠0
 | .ok ts=>∃ia ic,e=ω (θ #[σ ia ts.length ic,ι 0])/\ts.length<=ic/\ic<=maxLen/\LiesPAll (λb=>w.heap.size<=b) w' ts ia 0
def RL.pre(ts:List T):RL->RL
 | .bad e=> .bad e
 | .ok us=> .ok (ts++us)
theorem RZ(r:RL):RL.pre [] r=r:=by cases r<;>rfl
theorem OR{f:τ->R}(a:∀b t m,f b= .ok t m->1<=m){ts:List T}{t:T}(c:b≠[])(h:f b= .ok t m):RL.pre ts (rdAll f b.length b)=RL.pre (ts++[t]) (rdAll f (b.drop m).length (b.drop m)):=by
 have g:=a _ _ _ h;have i:0<b.length:=BH.2 c;obtain⟨n,d⟩:∃n,b.length=n+1:=⟨b.length-1,by omega⟩;rw[d,Gi c h,Lm a n (b.drop m).length (b.drop m) (by rw[A3];omega) (Ab _)];cases rdAll f (b.drop m).length (b.drop m)with
 |bad e=>rfl
 |ok us=>simp[RL.pre]
theorem Ig{f:τ->R}(d:∀b t m,f b= .ok t m->1<=m/\m<=b.length):∀n b ts,rdAll f n b= .ok ts->ts.length<=b.length
 |n,[],ts,h=>by rw[EZ]at h;cases h;simp
 |0,_::_,ts,h=>by cases h
 |n+1,x::b,ts,h=>by
  cases c:f (x::b)with
  |bad e=>rw[FA (by simp) c]at h;cases h
  |ok t m=>
   have g:=d _ _ _ c;rw[Gi (by simp) c]at h;cases a:rdAll f n ((x::b).drop m)with
   |bad e=>rw[a]at h;cases h
   |ok us=>
    rw[a]at h;cases h;have:=Ig d n _ us a;rw[A3]at this;simp only[AE]at*;omega
theorem Fa{v:Δ}(h:OwnI w base v ys)(a:v.ownBlock=some g):base<=g/\g<w.heap.size:=by
 rcases h.2 with⟨rfl,_⟩|⟨g',cap,cur,rfl,b,c,_⟩
 ·cases a
 ·cases a;exact⟨b,lt_of_get c⟩
theorem Eg{w':Γ}{v:Δ}(h:OwnI w base v ys)(c:∀g,v.ownBlock=some g->g<w.heap.size->w'.heap[g]?=w.heap[g]?):OwnI w' base v ys:=by
 refine⟨h.1,?_⟩;rcases h.2 with e|⟨g,cap,cur,a,d,b,r⟩
 ·exact .inl e
 ·exact .inr ⟨g,cap,cur,a,d,(c g (by rw[a];rfl) (lt_of_get b)).trans b,r⟩
theorem Lw{wr w1:Γ}{it:Δ}{ts:List T}{y:V}{t:T}(l:OwnI wr w.heap.size it ys)(D:AllP (λb=>w.heap.size<=b/\it.ownBlock≠some b) wr ts ys)(p:Λ w wr)(k:Λ wr w1)
 (F:LiesP (λb=>wr.heap.size<=b) w1 t y) (E:ys.length<=1000000000) (ty:TypeId):
 ∃v' d,(Builtin.append_ #[106,106] ty #[it,σ (some ⟨w1.heap.size+1,0,none⟩) 1 1]).run prog ((w1.alloc (.cells #[β y.l,σ y.ba y.bn y.bc,σ y.ia y.m y.ic] 108)).alloc (.cells #[β y.l,σ y.ba y.bn y.bc,σ y.ia y.m y.ic] 108))= .ok v' d/\
  OwnI d w.heap.size v' (ys++[y])/\AllP (λb=>w.heap.size<=b/\v'.ownBlock≠some b) d (ts++[t]) (ys++[y])/\Λ w d:=by
 obtain⟨Y,x⟩:∃Y:Obj,Obj.cells #[β y.l,σ y.ba y.bn y.bc,σ y.ia y.m y.ic] 108=Y:=⟨_,rfl⟩;rw[x];have r:((w1.alloc Y).alloc Y).heap.size=w1.heap.size+2:=by simp
 have c:Λ wr ((w1.alloc Y).alloc Y):=(k.alloc k.size _).alloc (by have:=k.size;simp;omega) _;have I:=p.size;have H:=k.size;have q:((w1.alloc Y).alloc Y).heap[w1.heap.size+1]?=some Y:=heap_alloc2_new w1 Y Y;have z:∀j u,(V.cells y)[j]?=some u->((w1.alloc Y).alloc Y).cell? ((⟨w1.heap.size+1,0,none⟩:Addr).add j)=some u:=by
  intro j u G;rw[BO,A6];rw[<-x]at q⊢;rw[Aj _ _ _ _ _ _ q];simpa[V.cells]using G
 obtain⟨v',d,C,A,f,B⟩:=Jf (Eg l λg _ n=>c.block g n) y _ 1 z (by omega) E ty;have m:∀b,b<w1.heap.size+2->it.ownBlock≠some b->d.heap[b]?=((w1.alloc Y).alloc Y).heap[b]?:=λb a e=>f.block b (by rw[r];exact a) (λh=>e h.symm);have v:∀g,it.ownBlock=some g->g<wr.heap.size:=λg n=>(Fa l n).2;have s:∀b,b<w1.heap.size->it.ownBlock≠some b->v'.ownBlock≠some b:=λb a e h=>by
  rcases B with o|o
  ·exact e (o.symm.trans h)
  ·rw[o,r]at h;cases h;omega
 refine⟨v',d,C,A,AllP.snoc ?_ (D.mono λb a i=>⟨?_,a.1,s b (by omega) a.2⟩),?_⟩
 ·refine BD (λb a i=>⟨?_,by omega,?_⟩) t y F
  ·have e:it.ownBlock≠some b:=λh=>by have:=v b h;omega
   rw[m b (by omega) e,Ax _ _ _ (by simp;omega),Ax _ _ _ i]
  ·exact s b i (λh=>by have:=v b h;omega)
 ·rw[m b (by omega) a.2];exact c.block b i
 ·refine p.trans ⟨f.os.trans c.os,f.tape.trans c.tape,f.output.trans c.output,Au c.size f.size,λb a=>?_⟩;rw[m b (by omega) (λh=>by have:=(Fa l h).1;omega)];exact c.block b (by omega)
theorem OS(k:Nat)(W:ReadSaid k)(a:Ω)(n c d:Nat)(b:τ)(w:Γ)(h:Ag w a n c b)(hd:d+k=8)(hn:n<16777216):
 Calls prog 172 #[σ a n c,ι d] w (AllPost w (rdAll (rd k) b.length b)):=by
 have ao:=Aa W;have HA:=Aa h;obtain⟨D,i⟩:∃r,rdAll (rd k) b.length b=r:=⟨_,rfl⟩;rw[i];have af:=Aa i;have HL:=Aa h.l;clear W h i;go_enter func172,ntmps172;go_wp2_with fail
 go_loopw [0,6] (λO it v=>∃(R:Ω)(l x:Nat)(o:τ)(ts:List T)(ys:List V),O=σ R l x/\Ag w R l x o/\l+ts.length<=n/\D=RL.pre ts (rdAll (rd k) o.length o)/\OwnI v w.heap.size it ys/\AllP (λb=>w.heap.size<=b/\it.ownBlock≠some b) v ts ys/\Λ w v) (λO _ _=>lenOf O)
 case atStart=>exact⟨a,n,c,b,[],[],rfl,HA.out,by simp,by rw[RZ];exact af.out.symm,Dg _ _ _ _,trivial,Ac _ _⟩
 case round=>
  obtain⟨R,l,x,o,ts,ys,rfl,z,a1,i,p,s,j⟩:=hrel;have E:=z.l;by_cases h0:l=0
  ·subst h0;have G:o=[]:=Aw E;subst G;rw[EZ]at i;obtain⟨ia,ic,rfl,H,K,I⟩:=Lv (P:=λb=>w.heap.size<=b) p (s.mono λb hb _=>⟨rfl,hb.1⟩) (λg hg=>World.ownsRow.lt p g hg|>.1);have S:Hid (AllPost w D (ω (θ #[σ ia ts.length ic,ι 0])) wr):=by
    rw[i];simp only[RL.pre,A7];exact⟨j,ia,ic,rfl,H,K,I⟩
   clear z i p s j H K I E;go_wp2_with fail;go_ret2;exact S.out
  ·have G:o≠[]:=λh=>by rw[h]at E;simp at E;omega
   have aw:(0:Int)<l:=(by omega);have aq:0<l:=(by omega);obtain⟨gj,aa,rfl,a2,ap,am⟩:=ag_head z aq;unfold maxLen at ap;have ab:=ao.out _ l x d o wr (z.at j) hd (by omega);have ah:=Aa ab;have M:=Aa z;have L:=Aa (And.intro i (And.intro p (And.intro s j)));clear ab z i p s j am E;go_wp2_with fail;refine ah.out.mono ?_;rintro e w1⟨A,J⟩;obtain⟨i,p,s,j⟩:=L.out;cases u:rd k o with
   |bad N=>
    rw[u]at J;obtain⟨rfl,ad⟩:=J;have Z:D= .bad N:=by
     rw[i];obtain⟨q,hq⟩:∃q,o.length=q+1:=⟨o.length-1,by have:=M.out.l;omega⟩;rw[hq,FA G u];rfl
    have S:Hid (∀w',Λ w w'->AllPost w D (ω (θ #[ε,ι (N:Nat)])) w'):=λw' al=>by rw[Z];exact⟨al,rfl,ad⟩
    have ar:((N:Int) !=0)=true:=(by rw[BU];omega);have HB:=Aa ((j.trans (A.mono j.size)).alloc (Au j.size A.size) (.cells #[β false,ε,ε] 108));clear Z i p s j A ad u L;go_wp2_with fail;go_ret2;exact S.out _ HB.out
   |ok t m=>
    rw[u]at J;obtain⟨y,rfl,U⟩:=J;have HH:=Aa (And.intro i (And.intro p (And.intro s (And.intro j (And.intro A U)))));obtain⟨ax,ay⟩:=OL u;have az:=M.out.l;have a0:=Aa u;have ae:ys.length<=1000000000:=(by have:=s.len;omega);obtain⟨v',Q,Y,s1,s2,s3⟩:=Lw p s j A U ae 106;have ak:=Aa Y;have X:=ag_drop M.out (k:=m) (by omega);have ac:=OR (f:=rd k) (ts:=ts) (λb t m h=>(OL h).1) G u
    have ai:Hid (∃(B:τ)(C:List T)(F:List V),Ag w (if x=m then some ⟨gj,aa,none⟩else some ⟨gj,aa+m,none⟩) (l-m) (x-m) B/\l-m+C.length<=n/\D=RL.pre C (rdAll (rd k) B.length B)/\OwnI Q w.heap.size v' F/\AllP (λb=>w.heap.size<=b/\v'.ownBlock≠some b) Q C F/\Λ w Q):=
     ⟨o.drop m,ts++[t],ys++[y],X,by rw[Af];simp;omega,by rw[i,ac],s1,s2,s3⟩
    have av:(m:Int)<=l:=(by omega);clear i p s j A U u L Y s1 s2 s3 X ac ae HH;go_wp2_with (first|refine Eu rfl _ _ rfl _ _ rfl rfl ak.out ?_);obtain⟨B,C,F,e1,H,K,I,e5,e6⟩:=ai.out;refine⟨⟨_,l-m,x-m,B,C,F,rfl,e1,H,K,I,e5,e6⟩,?_⟩;simp only[lenOf];omega
theorem Y0{e:Nat}(h:hdr deep b= .bad e):e≠0:=by
 unfold hdr at h;split at h
 ·cases h;decide
 ·split at h
  ·cases h;decide
  ·split at h
   ·cases h
   ·split at h
    ·split at h
     ·cases h;assumption
     ·split at h
      ·cases h;decide
      ·cases h
    ·split at h
     ·cases h;decide
     ·cases h
theorem VK{f t:Nat}(h:hdr deep (x::r)= .ok f t)(j:x<256):t-f<16777216∨∃y∈r,¬(0<=y/\y<256):=by
 by_cases a:∀y∈r,0<=y/\y<256
 ·left;simp only[hdr]at h;split at h
  ·cases h
  ·split at h
   ·cases h;decide
   ·split at h
    ·split at h
     ·cases h
     ·rename_i d;obtain⟨b,c,_,_,i⟩:=GK (Decidable.not_not.1 d);split at h
      ·cases h
      ·cases h;obtain⟨g,e⟩:=DE a c b;omega
    ·split at h
     ·cases h
     ·cases h;omega
 ·right;simpa using a
theorem OT(a:192<=x):hdr true (x::r)= .bad 21:=by
 simp[hdr,a]
theorem NN{off n c:Nat}(h:Ag w (ζ g off) n c b){f t:Nat}(p:f<=t)(s:t<=n):Ag w (if c=f then some ⟨g,off,none⟩else some ⟨g,off+f,none⟩) (t-f) (c-f) ((b.take t).drop f):=by
 have q:=h.l;have a:((b.take t).drop f).length=t-f:=by rw[A3,Ap];omega
 refine⟨?_,?_,a,λx k=>h.b x (Bb (BA k))⟩
 ·by_cases i:t-f=0
  ·exact .inl ⟨i,Aw (by omega)⟩
  ·rcases h.i with⟨e,_⟩|⟨g',o,e,r,u,v,y,l⟩
   ·omega
   ·cases e;refine .inr ⟨g,off+f,Ae (by omega),a,by omega,by omega,by omega,λj m=>?_⟩;rw[a]at m;have:=l (f+j) (by omega);rw[C4,this];simp[List.getD,CK,AT (show f+j<t by omega)]
 ·intro d;split at d<;>cases d
theorem VL(a:Ω)(n c d:Nat)(b:τ)(w:Γ)(h:Ag w a n c b)(hd:d<=8)(t:n<=140737488351232)(k:Nat)(j:hdr (decide (d=8)) b= .bad k):
 Calls prog 162 #[σ a n c,ι d] w (ReadPost w (.bad k)):=by
 have i:=λw'(g:Λ w w')=>IA a n c d b w' (h.at g) hd (by omega);simp only[j,HR.f,HR.t,HR.e]at i;have q:=Y0 j;have s:((k:Int) !=0)=true:=by rw[BU];omega
 have m:=Aa i;clear i j h;go_enter func162,ntmps162;go_wp2_with fail;refine(m.out _ ((Ac _ _).alloc (Ab _) _)).mono ?_;rintro e w1⟨rfl,g⟩;rw[show((0:Nat):Int)=0 from rfl];have f:w1.heap[w.heap.size]?=some (.cells #[β false,ε,ε] 108):=Below.row g (Ak _ _);have l:Λ w w1:=((Ac w.heap.size w).alloc (Ab _) _).trans (g.mono (by simp));have x0:w1.cell? ⟨w.heap.size,0,none⟩=some (β false):=by rw[Aj _ _ _ _ _ _ f];rfl
 have x1:w1.cell? ⟨w.heap.size,1,none⟩=some (ε):=by rw[Aj _ _ _ _ _ _ f];rfl
 have x2:w1.cell? ⟨w.heap.size,2,none⟩=some (ε):=by rw[Aj _ _ _ _ _ _ f];rfl
 have xf:∀o,w1.frozen? ⟨w.heap.size,o,none⟩=false:=λo=>AN _ _ _ _ _ f;have HR:=Aa f;have p:=Aa l;clear f g l;go_wp2_with fail;have r:=put3 HR.out (β false) (ε) (ε);refine Aq (Bf results162 _ _ w.heap.size _ _ _ rfl r) rfl ?_;exact⟨Ci p.out (Ab _) _ _ _,rfl,q⟩
theorem Fb{bs:τ}(h:Row g w bs)(d:bs.length=m)(c:∀x∈bs,0<=x/\x<256)(b:m<=140737488351232)(f:P g):LiesP P w (.mk false bs []) ⟨false,some ⟨g,0,none⟩,m,m,none,0,0⟩:=by
 have a:m<=9223372036854775807:=by omega
 refine liesP_eq.2 ⟨⟨rfl,row_ag h d c a,rfl,Ab _,by show 0<=maxLen;unfold maxLen;omega,⟨b,by show 0<=_;omega⟩,λg' off e _=>?_⟩,Dp⟩;cases e;exact⟨f,λo=>AN _ _ _ _ _ h⟩
theorem Ty(a:Ω)(n c d:Nat)(x:Int)(r:τ)(w:Γ)(h:Ag w a n c (x::r))(hd:d<=8)(hn:n<=140737488351232)(f t:Nat)(P:hdr (decide (d=8)) (x::r)= .ok f t)(hx:x<192)(T:R)
 (s:(if f=1/\t=2/\(x::r).getD 1 0<128 then R.bad 23 else R.ok (.mk false (((x::r).take t).drop f) []) t)=T):
 Calls prog 162 #[σ a n c,ι d] w (ReadPost w T):=by
 have J:=λw'(H:Λ w w')=>IA a n c d (x::r) w' (h.at H) hd (by omega);simp only[P,HR.f,HR.t,HR.e]at J;obtain⟨ai,S,am,_⟩:=Ll P;rw[h.l]at S;obtain⟨g,off,rfl,av,ad,Z⟩:=ag_head h (by omega);unfold maxLen at ad;have l:=NN h ai S;have aa:=Aa J;have X:=Aa h;have HC:=Aa Z;have D:=Aa l;have Q:=Aa s;have ac:=h.b x (by simp);obtain⟨aq,ak⟩:=ac;have ab:0<n:=by omega
 have ap:(0:Int)<n:=by omega
 clear J P h Z l s;go_enter func162,ntmps162;go_wp2_with fail;refine(aa.out _ ((Ac _ _).alloc (Ab _) _)).mono ?_;rintro e w1⟨rfl,H⟩;rw[show((0:Nat):Int)=0 from rfl];have C:w1.heap[w.heap.size]?=some (.cells #[β false,ε,ε] 108):=Below.row H (Ak _ _);have M:Λ w w1:=((Ac w.heap.size w).alloc (Ab _) _).trans (H.mono (by simp));have x0:w1.cell? ⟨w.heap.size,0,none⟩=some (β false):=by rw[Aj _ _ _ _ _ _ C];rfl
 have x1:w1.cell? ⟨w.heap.size,1,none⟩=some (ε):=by rw[Aj _ _ _ _ _ _ C];rfl
 have x2:w1.cell? ⟨w.heap.size,2,none⟩=some (ε):=by rw[Aj _ _ _ _ _ _ C];rfl
 have xf:∀o,w1.frozen? ⟨w.heap.size,o,none⟩=false:=λo=>AN _ _ _ _ _ C;have y0:w1.cell? ⟨g,off,none⟩=some (η x):=by have:=HC.out 0 ab;exact(M.cell (p:=⟨g,off,none⟩) (Al this)).trans this
 have HR:=Aa C;have j:=Aa M;clear C H M;have fin:∀ah,ah=w1->True:=λ_ _=>trivial;by_cases K:f=1/\t=2
 ·obtain⟨rfl,rfl⟩:=K;have y1:w1.cell? ⟨g,off+1,none⟩=some (η ((x::r).getD 1 0)):=by have:=HC.out 1 (by omega);exact(j.out.cell (p:=⟨g,off+1,none⟩) (Al this)).trans this
  have Y:=X.out.b ((x::r).getD 1 0) (by have hl:=X.out.l;rw[List.getD,Ad (by omega)];exact Bh _);have s:=Q.out;obtain⟨z,V⟩:∃z,(x::r).getD 1 0=z:=⟨_,rfl⟩;rw[V]at y1 Y s;obtain⟨aj,G⟩:=Y;have al:(1:Int)<n:=by omega
  clear V;by_cases U:z<128
  ·rw[Ai ⟨rfl,rfl,U⟩]at s;subst s;go_wp2_with fail;have u:=put3 HR.out (β false) (ε) (ε);refine Aq (Bf results162 _ _ w.heap.size _ _ _ rfl u) rfl ?_;exact⟨Ci j.out (Ab _) _ _ _,rfl,by decide⟩
  ·rw[Ae (by intro h;exact U h.2.2)]at s;subst s;have l:=D.out;rw[Ae (by omega)]at l;have B:=Aa (Fk _ (2-1) (c-1) _ w1 (l.at j.out) (by omega));clear l;go_wp2_with fail;refine B.out.mono ?_;rintro e i⟨rfl,m,k⟩;have b:=Below.row k HR.out;have x0:i.cell? ⟨w.heap.size,0,none⟩=some (β false):=(by rw[Aj _ _ _ _ _ _ b];rfl);have x1:i.cell? ⟨w.heap.size,1,none⟩=some (ε):=(by rw[Aj _ _ _ _ _ _ b];rfl);have x2:i.cell? ⟨w.heap.size,2,none⟩=some (ε):=(by rw[Aj _ _ _ _ _ _ b];rfl);have xf:∀o,i.frozen? ⟨w.heap.size,o,none⟩=false:=λo=>AN _ _ _ _ _ b;have y:=Aa b;have v:=Aa m;have A:=Aa (j.out.trans (k.mono j.out.size));clear b m k;go_wp2_with fail;have u:=put3 y.out (β false) (σ (some ⟨w1.heap.size+1,0,none⟩) (2-1) (2-1)) (ε);refine Aq (Bf results162 _ _ w.heap.size _ _ _ rfl u) rfl ?_;have G:=j.out.size;refine⟨Ci A.out (Ab _) _ _ _,⟨false,some ⟨w1.heap.size+1,0,none⟩,2-1,2-1,none,0,0⟩,rfl,?_⟩;exact Fb ((Dk (by omega) _ _ _).trans v.out) D.out.l D.out.b (by omega) (by show w.heap.size<=_;omega)
 ·have s:=Q.out;rw[Ae (λh=>K ⟨h.1,h.2.1⟩)]at s;subst s;have l:=D.out;have E:=Aa l.l;have I:=Aa l.b;have aw:(f:Int)<=t:=by omega
  have ao:(t:Int)<=n:=by omega
  by_cases N:c=f
  ·rw[Ai N]at l;have e1:t=f:=(by omega);have e2:n=f:=(by omega);subst e1 e2 N;rw[C8]at l E;have B:=Aa (Fk _ 0 0 _ w1 (l.at j.out) (by omega));have F:=E;clear l D E;by_cases L:c=1
   ·subst L;have ae:((1:Int)==2)=false:=(by decide);go_wp2_with fail;refine B.out.mono ?_;rintro e i⟨rfl,m,k⟩;have b:=Below.row k HR.out;have x0:i.cell? ⟨w.heap.size,0,none⟩=some (β false):=(by rw[Aj _ _ _ _ _ _ b];rfl);have x1:i.cell? ⟨w.heap.size,1,none⟩=some (ε):=(by rw[Aj _ _ _ _ _ _ b];rfl);have x2:i.cell? ⟨w.heap.size,2,none⟩=some (ε):=(by rw[Aj _ _ _ _ _ _ b];rfl);have xf:∀o,i.frozen? ⟨w.heap.size,o,none⟩=false:=λo=>AN _ _ _ _ _ b;have y:=Aa b;have v:=Aa m;have A:=Aa (j.out.trans (k.mono j.out.size));clear b m k;go_wp2_with fail;have u:=put3 y.out (β false) (σ (some ⟨w1.heap.size+1,0,none⟩) 0 0) (ε);refine Aq (Bf results162 _ _ w.heap.size _ _ _ rfl u) rfl ?_;have G:=j.out.size;refine⟨Ci A.out (Ab _) _ _ _,⟨false,some ⟨w1.heap.size+1,0,none⟩,0,0,none,0,0⟩,rfl,?_⟩;exact Fb ((Dk (by omega) _ _ _).trans v.out) F.out I.out (by omega) (by show w.heap.size<=_;omega)
   ·have af:((c:Int)==1)=false:=(by simp;omega);go_wp2_with fail;refine B.out.mono ?_;rintro e i⟨rfl,m,k⟩;have b:=Below.row k HR.out;have x0:i.cell? ⟨w.heap.size,0,none⟩=some (β false):=(by rw[Aj _ _ _ _ _ _ b];rfl);have x1:i.cell? ⟨w.heap.size,1,none⟩=some (ε):=(by rw[Aj _ _ _ _ _ _ b];rfl);have x2:i.cell? ⟨w.heap.size,2,none⟩=some (ε):=(by rw[Aj _ _ _ _ _ _ b];rfl);have xf:∀o,i.frozen? ⟨w.heap.size,o,none⟩=false:=λo=>AN _ _ _ _ _ b;have y:=Aa b;have v:=Aa m;have A:=Aa (j.out.trans (k.mono j.out.size));clear b m k;go_wp2_with fail;have u:=put3 y.out (β false) (σ (some ⟨w1.heap.size+1,0,none⟩) 0 0) (ε);refine Aq (Bf results162 _ _ w.heap.size _ _ _ rfl u) rfl ?_;have G:=j.out.size;refine⟨Ci A.out (Ab _) _ _ _,⟨false,some ⟨w1.heap.size+1,0,none⟩,0,0,none,0,0⟩,rfl,?_⟩;exact Fb ((Dk (by omega) _ _ _).trans v.out) F.out I.out (by omega) (by show w.heap.size<=_;omega)
  ·rw[Ae N]at l;obtain⟨q,O⟩:∃q,q=t-f:=⟨_,rfl⟩;have B:=Aa (Fk _ (t-f) (c-f) _ w1 (l.at j.out) (by omega));have F:Hid ((((x::r).take t).drop f).length=q):=(by rw[O];exact E);have ar:q<=140737488351232:=(by omega);have W:=Aa O;clear l D E O;by_cases L:f=1
   ·subst L;have ae:((t:Int)==2)=false:=(by simp at K⊢;omega);go_wp2_with fail;refine B.out.mono ?_;rw[<-W.out];rintro e i⟨rfl,m,k⟩;have b:=Below.row k HR.out;have x0:i.cell? ⟨w.heap.size,0,none⟩=some (β false):=(by rw[Aj _ _ _ _ _ _ b];rfl);have x1:i.cell? ⟨w.heap.size,1,none⟩=some (ε):=(by rw[Aj _ _ _ _ _ _ b];rfl);have x2:i.cell? ⟨w.heap.size,2,none⟩=some (ε):=(by rw[Aj _ _ _ _ _ _ b];rfl);have xf:∀o,i.frozen? ⟨w.heap.size,o,none⟩=false:=λo=>AN _ _ _ _ _ b;have y:=Aa b;have v:=Aa m;have A:=Aa (j.out.trans (k.mono j.out.size));clear b m k;go_wp2_with fail;have u:=put3 y.out (β false) (σ (some ⟨w1.heap.size+1,0,none⟩) q q) (ε);refine Aq (Bf results162 _ _ w.heap.size _ _ _ rfl u) rfl ?_;have G:=j.out.size;refine⟨Ci A.out (Ab _) _ _ _,⟨false,some ⟨w1.heap.size+1,0,none⟩,q,q,none,0,0⟩,rfl,?_⟩;exact Fb ((Dk (by omega) _ _ _).trans v.out) F.out I.out (by omega) (by show w.heap.size<=_;omega)
   ·have af:((f:Int)==1)=false:=(by simp;omega);go_wp2_with fail;refine B.out.mono ?_;rw[<-W.out];rintro e i⟨rfl,m,k⟩;have b:=Below.row k HR.out;have x0:i.cell? ⟨w.heap.size,0,none⟩=some (β false):=(by rw[Aj _ _ _ _ _ _ b];rfl);have x1:i.cell? ⟨w.heap.size,1,none⟩=some (ε):=(by rw[Aj _ _ _ _ _ _ b];rfl);have x2:i.cell? ⟨w.heap.size,2,none⟩=some (ε):=(by rw[Aj _ _ _ _ _ _ b];rfl);have xf:∀o,i.frozen? ⟨w.heap.size,o,none⟩=false:=λo=>AN _ _ _ _ _ b;have y:=Aa b;have v:=Aa m;have A:=Aa (j.out.trans (k.mono j.out.size));clear b m k;go_wp2_with fail;have u:=put3 y.out (β false) (σ (some ⟨w1.heap.size+1,0,none⟩) q q) (ε);refine Aq (Bf results162 _ _ w.heap.size _ _ _ rfl u) rfl ?_;have G:=j.out.size;refine⟨Ci A.out (Ab _) _ _ _,⟨false,some ⟨w1.heap.size+1,0,none⟩,q,q,none,0,0⟩,rfl,?_⟩;exact Fb ((Dk (by omega) _ _ _).trans v.out) F.out I.out (by omega) (by show w.heap.size<=_;omega)
theorem IB{b:Ω}{a:Nat}{ts:List T}(d:ts.length<=a)(c:a<=maxLen)(f:ts.length<=140737488351232)(h:LiesPAll P w ts b 0):LiesP P w (.mk true [] ts) ⟨true,none,0,0,b,ts.length,a⟩:=
 liesP_eq.2 ⟨⟨rfl,⟨.inl ⟨rfl,rfl⟩,λ_=>⟨rfl,rfl⟩,rfl,λx i=>by cases i⟩,rfl,d,c,⟨A8 _,f⟩,λg off e=>by cases e⟩,h⟩
theorem Tz(I:τ->R)(z:∀b t m,I b= .ok t m->1<=m/\m<=b.length)(a:Ω)(n c d:Nat)(x:Int)(r:τ)(w:Γ)(h:Ag w a n c (x::r))(hd:d<8)(hn:n<=140737488351232)(f t:Nat)(M:hdr (decide (d=8)) (x::r)= .ok f t)(hx:192<=x)(ai:R)
 (ad:∀(a:Ω)(n c:Nat)(b:τ)(w:Γ),Ag w a n c b->n<16777216->Calls prog 172 #[σ a n c,ι (d+1:Nat)] w (AllPost w (rdAll I b.length b)))
 (ab:(match rdAll I (((x::r).take t).drop f).length (((x::r).take t).drop f)with| .bad e=>R.bad e| .ok ts=>R.ok (.mk true [] ts) t)=ai):
 Calls prog 162 #[σ a n c,ι d] w (ReadPost w ai):=by
 have O:=λw'(l:Λ w w')=>IA a n c d (x::r) w' (h.at l) (by omega) (by omega);have aj:t-f<16777216:=by
  rcases VK M (h.b x (by simp)).2 with h'|⟨y,hy,am⟩
  ·exact h'
  ·exact absurd (h.b y (Az _ hy)) am
 simp only[M,HR.f,HR.t,HR.e]at O;obtain⟨aq,af,av,_⟩:=Ll M;rw[h.l]at af;obtain⟨g,off,rfl,a1,ap,hc⟩:=ag_head h (by omega);unfold maxLen at ap;have A:=NN h aq af;have ac:=Aa O;have aa:=Aa ad;have Z:=Aa z;have HC:=Aa hc;have V:=Aa A.l;have L:=Aa ab;obtain⟨aw,ay⟩:=h.b x (by simp);have ae:0<n:=by omega
 have a0:(0:Int)<n:=by omega
 have ax:(f:Int)<=t:=by omega
 have az:(t:Int)<=n:=by omega
 have ar:¬x<192:=by omega
 clear O M h hc ab ad z;by_cases T:c=f
 ·rw[Ai T]at A;have e1:t=f:=by omega
  have e2:n=f:=by omega
  subst e1 e2 T;rw[C8]at A V;have Y:=Aa A;clear A;go_enter func162,ntmps162;go_wp2_with fail;refine(ac.out _ ((Ac _ _).alloc (Ab _) _)).mono ?_;rintro e w1⟨rfl,l⟩;rw[show((0:Nat):Int)=0 from rfl];have E:w1.heap[w.heap.size]?=some (.cells #[β false,ε,ε] 108):=Below.row l (Ak _ _);have C:Λ w w1:=((Ac w.heap.size w).alloc (Ab _) _).trans (l.mono (by simp));have y0:w1.cell? ⟨g,off,none⟩=some (η x):=by have:=HC.out 0 ae;exact(C.cell (p:=⟨g,off,none⟩) (Al this)).trans this
  have HR:=Aa E;have q:=Aa C;clear E l C;have ah:=aa.out _ _ _ _ w1 (Y.out.at q.out) (by omega);have W:=Aa ah;clear ah;go_wp2_with fail;rw[show((d:Int)+1)=((d+1:Nat):Int)from by omega];refine W.out.mono ?_;rintro e v⟨B,s⟩;have k:=Below.row B HR.out;have x0:v.cell? ⟨w.heap.size,0,none⟩=some (β false):=by rw[Aj _ _ _ _ _ _ k];rfl
  have x1:v.cell? ⟨w.heap.size,1,none⟩=some (ε):=by rw[Aj _ _ _ _ _ _ k];rfl
  have x2:v.cell? ⟨w.heap.size,2,none⟩=some (ε):=by rw[Aj _ _ _ _ _ _ k];rfl
  have xf:∀o,v.frozen? ⟨w.heap.size,o,none⟩=false:=λo=>AN _ _ _ _ _ k;have G:=Aa k;have H:=Aa (q.out.trans (B.mono q.out.size));have ao:=q.out.size;have al:=lt_of_get HR.out;clear k B;cases i:rdAll I (((x::r).take c).drop c).length (((x::r).take c).drop c)with
  |bad X=>
   rw[i]at s;obtain⟨rfl,S⟩:=s;have j:=L.out;rw[i]at j;have D:=Aa j;have ak:((X:Int) !=0)=true:=(by rw[BU];omega);clear i j;go_wp2_with fail;have i:=put3 G.out (β false) (ε) (ε);refine Aq (Bf results162 _ _ w.heap.size _ _ _ rfl i) rfl ?_;rw[<-D.out];exact⟨Ci H.out (Ab _) _ _ _,rfl,S⟩
  |ok ts=>
   rw[i]at s;obtain⟨K,J,rfl,P,N,F⟩:=s;have j:=L.out;rw[i]at j;have z:=Ig Z.out _ _ _ i;have D:=Aa j;have Q:=Aa F;have U:ts.length<=140737488351232:=(by rw[V.out]at z;omega);clear i j F z;go_wp2_with fail;have i:=put3 G.out (β true) (ε) (σ K ts.length J);refine Aq (Bf results162 _ _ w.heap.size _ _ _ rfl i) rfl ?_;rw[<-D.out];refine⟨Ci H.out (Ab _) _ _ _,⟨true,none,0,0,K,ts.length,J⟩,rfl,?_⟩;refine IB P N U (DN (λb(l:w1.heap.size<=b) hlt=>⟨Dk (by omega) _ _ _,by omega⟩) (λu _=>BD (λb(l:w1.heap.size<=b) hlt=>⟨Dk (by omega) _ _ _,by omega⟩) u) Q.out)
 ·rw[Ae T]at A;have Y:=Aa A;clear A;go_enter func162,ntmps162;go_wp2_with fail;refine(ac.out _ ((Ac _ _).alloc (Ab _) _)).mono ?_;rintro e w1⟨rfl,l⟩;rw[show((0:Nat):Int)=0 from rfl];have E:w1.heap[w.heap.size]?=some (.cells #[β false,ε,ε] 108):=Below.row l (Ak _ _);have C:Λ w w1:=((Ac w.heap.size w).alloc (Ab _) _).trans (l.mono (by simp));have y0:w1.cell? ⟨g,off,none⟩=some (η x):=by have:=HC.out 0 ae;exact(C.cell (p:=⟨g,off,none⟩) (Al this)).trans this
  have HR:=Aa E;have q:=Aa C;clear E l C;have W:=Aa (aa.out _ _ _ _ w1 (Y.out.at q.out) aj);go_wp2_with fail;rw[show((d:Int)+1)=((d+1:Nat):Int)from by omega];refine W.out.mono ?_;rintro e v⟨B,s⟩;have k:=Below.row B HR.out;have x0:v.cell? ⟨w.heap.size,0,none⟩=some (β false):=by rw[Aj _ _ _ _ _ _ k];rfl
  have x1:v.cell? ⟨w.heap.size,1,none⟩=some (ε):=by rw[Aj _ _ _ _ _ _ k];rfl
  have x2:v.cell? ⟨w.heap.size,2,none⟩=some (ε):=by rw[Aj _ _ _ _ _ _ k];rfl
  have xf:∀o,v.frozen? ⟨w.heap.size,o,none⟩=false:=λo=>AN _ _ _ _ _ k;have G:=Aa k;have H:=Aa (q.out.trans (B.mono q.out.size));have ao:=q.out.size;have al:=lt_of_get HR.out;clear k B;cases i:rdAll I (((x::r).take t).drop f).length (((x::r).take t).drop f)with
  |bad X=>
   rw[i]at s;obtain⟨rfl,S⟩:=s;have j:=L.out;rw[i]at j;have D:=Aa j;have ak:((X:Int) !=0)=true:=(by rw[BU];omega);clear i j;go_wp2_with fail;have i:=put3 G.out (β false) (ε) (ε);refine Aq (Bf results162 _ _ w.heap.size _ _ _ rfl i) rfl ?_;rw[<-D.out];exact⟨Ci H.out (Ab _) _ _ _,rfl,S⟩
  |ok ts=>
   rw[i]at s;obtain⟨K,J,rfl,P,N,F⟩:=s;have j:=L.out;rw[i]at j;have z:=Ig Z.out _ _ _ i;have D:=Aa j;have Q:=Aa F;have U:ts.length<=140737488351232:=(by rw[V.out]at z;omega);clear i j F z;go_wp2_with fail;have i:=put3 G.out (β true) (ε) (σ K ts.length J);refine Aq (Bf results162 _ _ w.heap.size _ _ _ rfl i) rfl ?_;rw[<-D.out];refine⟨Ci H.out (Ab _) _ _ _,⟨true,none,0,0,K,ts.length,J⟩,rfl,?_⟩;refine IB P N U (DN (λb(l:w1.heap.size<=b) hlt=>⟨Dk (by omega) _ _ _,by omega⟩) (λu _=>BD (λb(l:w1.heap.size<=b) hlt=>⟨Dk (by omega) _ _ _,by omega⟩) u) Q.out)
theorem MB(k:Nat)(i:τ->R)(s:∀b,rd k b=rd1 i (decide (k=0)) b)(p:∀b t m,i b= .ok t m->1<=m/\m<=b.length)
 (o:0<k->∀(d:Nat),d+k=8->∀(a:Ω)(n c:Nat)(b:τ)(w:Γ),Ag w a n c b->n<16777216->Calls prog 172 #[σ a n c,ι (d+1:Nat)] w (AllPost w (rdAll i b.length b))):ReadSaid k:=by
 intro a n c d b w h hd l;rw[s];have q:decide (k=0)=decide (d=8):=by by_cases y:k=0<;>simp[y]<;>omega
 rw[q];unfold rd1;cases g:hdr (decide (d=8)) b with
 |bad e=>exact VL a n c d b w h (by omega) l e g
 |ok f t=>
  cases b with
  |nil=>simp[hdr]at g
  |cons x r=>
   dsimp only;by_cases j:(x::r).headD 0<192
   ·rw[Ai j];exact Ty a n c d x r w h (by omega) l f t g j _ rfl
   ·rw[Ae j];have z:¬x<192:=j;have v:0<k:=by
     cases k with
     |succ k=>omega
     |zero=>
      exfalso;have u:decide (d=8)=true:=(by simp;omega);rw[u,OT (by omega)]at g;cases g
    exact Tz i p a n c d x r w h (by omega) l f t g (by omega) _ (o v d hd) rfl
theorem OU:∀k,ReadSaid k
 |0=>MB 0 (λ_=> .bad 21) (λb=>rfl) (λb t m h=>by cases h) (λh=>absurd h (by omega))
 |k+1=>MB (k+1) (rd k) (λb=>rfl) (λb t m h=>OL h) (λ_ d hd a n c b w h e=>OS k (OU k) a n c (d+1) b w h (by omega) e)
theorem T1(a:Ω)(n c:Nat)(b:τ)(w:Γ)(h:Ag w a n c b)(z:n<=140737488351232):Calls prog 141 #[σ a n c] w (ReadPost w (rd 8 b)):=by
 have g:=λw'(d:Λ w w')=>OU 8 a n c 0 b w' (h.at d) (by omega) z;rw[show((0:Nat):Int)=0 from rfl]at g;have j:=Aa g;obtain⟨v,k⟩:∃r,rd 8 b=r:=⟨_,rfl⟩;rw[k]at j⊢;clear g h k;go_enter func141,ntmps141;go_wp2_with fail;refine(j.out _ ((Ac _ _).alloc (Ab _) _)).mono ?_;rintro e w1⟨d,s⟩;have f:w1.heap[w.heap.size]?=some (.cells #[β false,ε,ε] 108):=Below.row d (Ak _ _);have p:Λ w w1:=((Ac w.heap.size w).alloc (Ab _) _).trans (d.mono (by simp));have x0:w1.cell? ⟨w.heap.size,0,none⟩=some (β false):=by rw[Aj _ _ _ _ _ _ f];rfl
 have x1:w1.cell? ⟨w.heap.size,1,none⟩=some (ε):=by rw[Aj _ _ _ _ _ _ f];rfl
 have x2:w1.cell? ⟨w.heap.size,2,none⟩=some (ε):=by rw[Aj _ _ _ _ _ _ f];rfl
 have xf:∀o,w1.frozen? ⟨w.heap.size,o,none⟩=false:=λo=>AN _ _ _ _ _ f;have HR:=Aa f;have l:=Aa p;clear f d p;cases v with
 |bad C=>
  obtain⟨rfl,u⟩:=s;go_wp2_with fail;have i:=put3 HR.out (β false) (ε) (ε);refine Aq (Bf results141 _ _ w.heap.size _ _ _ rfl i) rfl ?_;exact⟨Ci l.out (Ab _) _ _ _,rfl,u⟩
 |ok t m=>
  obtain⟨y,rfl,q⟩:=s;have x:=Aa q;clear q;go_wp2_with fail;have i:=put3 HR.out (β y.l) (σ y.ba y.bn y.bc) (σ y.ia y.m y.ic);refine Aq (Bf results141 _ _ w.heap.size _ _ _ rfl i) rfl ?_;refine⟨Ci l.out (Ab _) _ _ _,y,rfl,BD (λb d A=>?_) t y x.out⟩;have B:w.heap.size+1<=b:=by have:(w.alloc (.cells #[β false,ε,ε] 108)).heap.size<=b:=d;simpa using this
  exact⟨Dk (by omega) _ _ _,by omega⟩
inductive RT where
 |bad (e:Nat)
 |ok (t:T)
def decP(b:τ):RT:=match rd 8 b with
 | .bad e=> .bad e
 | .ok t n=>if n<b.length then .bad 24 else .ok t
def DecPost(w:Γ)(r:RT):Ending->Γ->Prop:=λe w'=>Λ w w'/\
 match r with
 | .bad er=>e=ω (θ #[γ #[β false,ε,ε],ι (er:Nat)])/\er≠0
 | .ok t=>∃y:V,e=ω (θ #[γ #[β y.l,σ y.ba y.bn y.bc,σ y.ia y.m y.ic],ι 0])/\LiesP (λb=>w.heap.size<=b) w' t y
theorem gen_w{W:Γ}{p q:Γ->Prop}(F:q W)(h:∀v,q v->p v):p W:=h W F
structure Rb(w v:Γ):Prop where
 row:v.heap[w.heap.size]?=some (.cells #[β false,ε,ε] 108)
 bel:Λ w v
theorem Rb.x0{v:Γ}(h:Rb w v):v.cell? ⟨w.heap.size,0,none⟩=some (β false):=by rw[Aj _ _ _ _ _ _ h.row];rfl
theorem Rb.x1{v:Γ}(h:Rb w v):v.cell? ⟨w.heap.size,1,none⟩=some (ε):=by rw[Aj _ _ _ _ _ _ h.row];rfl
theorem Rb.x2{v:Γ}(h:Rb w v):v.cell? ⟨w.heap.size,2,none⟩=some (ε):=by rw[Aj _ _ _ _ _ _ h.row];rfl
theorem Rb.xf{v:Γ}(h:Rb w v):∀o,v.frozen? ⟨w.heap.size,o,none⟩=false:=λo=>AN _ _ _ _ _ h.row
theorem Rb.alloc{v:Γ}(h:Rb w v)(o:Obj):Rb w (v.alloc o):=⟨(Ax v o _ (lt_of_get h.row)).trans h.row,h.bel.alloc h.bel.size o⟩
theorem Rb.call{v v':Γ}(h:Rb w v)(a:Λ v v'):Rb w v':=⟨Below.row a h.row,h.bel.trans (a.mono h.bel.size)⟩
theorem Rb.new(w:Γ):Rb w (w.alloc (.cells #[β false,ε,ε] 108)):=⟨Ak _ _,(Ac _ _).alloc (Ab _) _⟩
theorem Lx(a:Ω)(n c:Nat)(b:τ)(w:Γ)(h:Ag w a n c b)(M:n<=140737488351232):Calls prog 97 #[σ a n c] w (DecPost w (decP b)):=by
 have x:=λw'(j:Λ w w')=>T1 a n c b w' (h.at j) M;have G:=Aa x;have B:=h.l;obtain⟨O,f⟩:∃r,decP b=r:=⟨_,rfl⟩;rw[f];unfold decP at f;have H:=Aa f;have L:=Aa B;clear x h f B;go_enter func97,ntmps97;go_wp2_with fail;refine(G.out _ ((Ac _ _).alloc (Ab _) _)).mono ?_;rintro e w1⟨j,u⟩;have k:=(Rb.new w).call j;clear j;have f:=H.out;cases l:rd 8 b with
 |bad K=>
  rw[l]at u f;obtain⟨rfl,J⟩:=u;subst f;have N:((K:Int) !=0)=true:=by rw[BU];omega
  clear l
  go_upto_if 14 with fail
  refine gen_w (p:=λv=>Code.wp _ _ _ _ v) (q:=λv=>Rb w v/\v.heap[w1.heap.size]?=some (.cells #[β false,ε,ε] 108)) ⟨k.alloc _,Ak _ _⟩ ?_;clear k;rintro v⟨RV,d⟩;have x0:=RV.x0;have x1:=RV.x1;have x2:=RV.x2;have xf:=RV.xf;have E:v.cell? ⟨w1.heap.size,0,none⟩=some (#[β false,ε,ε][0]):=by rw[Aj _ _ _ _ _ _ d];rfl
  have F:v.cell? ⟨w1.heap.size,1,none⟩=some (#[β false,ε,ε][1]):=by rw[Aj _ _ _ _ _ _ d];rfl
  have D:v.cell? ⟨w1.heap.size,2,none⟩=some (#[β false,ε,ε][2]):=by rw[Aj _ _ _ _ _ _ d];rfl
  have g:=Aa RV;clear RV d;go_wp2_with fail;have s:=put3 g.out.row (β false) (ε) (ε);refine Aq (E4 results97 _ _ w.heap.size _ _ _ rfl s) rfl ?_;exact⟨Ci g.out.bel (Ab _) _ _ _,rfl,J⟩
 |ok t m=>
  rw[l]at u f;simp only[L.out]at f;obtain⟨y,rfl,C⟩:=u;have i:Hid (∀o,LiesP (λb=>w.heap.size+1<=b) (w1.alloc o) t y):=λo=>BD (λb j z=>⟨Ax _ _ _ z,by have:(w.alloc (.cells #[β false,ε,ε] 108)).heap.size<=b:=j;simpa using this⟩) t y C;clear C;by_cases A:m<n
  ·rw[Ai A]at f;subst f;have I:(m:Int)<n:=(by omega);clear l
   go_upto_if 14 with fail
   refine gen_w (p:=λv=>Code.wp _ _ _ _ v) (q:=λv=>Rb w v/\v.heap[w1.heap.size]?=some (.cells #[β y.l,σ y.ba y.bn y.bc,σ y.ia y.m y.ic] 108)/\Hid (LiesP (λb=>w.heap.size+1<=b) v t y)) ⟨k.alloc _,Ak _ _,i.out _⟩ ?_;clear k i;rintro v⟨RV,d,i⟩;have x0:=RV.x0;have x1:=RV.x1;have x2:=RV.x2;have xf:=RV.xf;have E:v.cell? ⟨w1.heap.size,0,none⟩=some (#[β y.l,σ y.ba y.bn y.bc,σ y.ia y.m y.ic][0]):=(by rw[Aj _ _ _ _ _ _ d];rfl);have F:v.cell? ⟨w1.heap.size,1,none⟩=some (#[β y.l,σ y.ba y.bn y.bc,σ y.ia y.m y.ic][1]):=(by rw[Aj _ _ _ _ _ _ d];rfl);have D:v.cell? ⟨w1.heap.size,2,none⟩=some (#[β y.l,σ y.ba y.bn y.bc,σ y.ia y.m y.ic][2]):=(by rw[Aj _ _ _ _ _ _ d];rfl);have g:=Aa RV;clear RV d;go_wp2_with fail;have s:=put3 g.out.row (β false) (ε) (ε);refine Aq (E4 results97 _ _ w.heap.size _ _ _ rfl s) rfl ?_;exact⟨Ci g.out.bel (Ab _) _ _ _,rfl,by decide⟩
  ·rw[Ae A]at f;subst f;have I:¬(m:Int)<n:=(by omega);clear l
   go_upto_if 14 with fail
   refine gen_w (p:=λv=>Code.wp _ _ _ _ v) (q:=λv=>Rb w v/\v.heap[w1.heap.size]?=some (.cells #[β y.l,σ y.ba y.bn y.bc,σ y.ia y.m y.ic] 108)/\Hid (LiesP (λb=>w.heap.size+1<=b) v t y)) ⟨k.alloc _,Ak _ _,i.out _⟩ ?_;clear k i;rintro v⟨RV,d,i⟩;have x0:=RV.x0;have x1:=RV.x1;have x2:=RV.x2;have xf:=RV.xf;have E:v.cell? ⟨w1.heap.size,0,none⟩=some (#[β y.l,σ y.ba y.bn y.bc,σ y.ia y.m y.ic][0]):=(by rw[Aj _ _ _ _ _ _ d];rfl);have F:v.cell? ⟨w1.heap.size,1,none⟩=some (#[β y.l,σ y.ba y.bn y.bc,σ y.ia y.m y.ic][1]):=(by rw[Aj _ _ _ _ _ _ d];rfl);have D:v.cell? ⟨w1.heap.size,2,none⟩=some (#[β y.l,σ y.ba y.bn y.bc,σ y.ia y.m y.ic][2]):=(by rw[Aj _ _ _ _ _ _ d];rfl);have g:=Aa RV;clear RV d;go_wp2_with fail;have s:=put3 g.out.row (β y.l) (σ y.ba y.bn y.bc) (σ y.ia y.m y.ic);refine Aq (E4 results97 _ _ w.heap.size _ _ _ rfl s) rfl ?_;refine⟨Ci g.out.bel (Ab _) _ _ _,y,rfl,BD (λb(j:w.heap.size+1<=b) z=>⟨Dk (by omega) _ _ _,by omega⟩) t y i.out⟩
end
section
variable {n base : Nat}
theorem Xat(n:Nat):val (be n)=n:=by
 induction n using Nat.strongRecOn with
 |_ n a=>
  by_cases h:n=0
  ·subst h;rw[FW];rfl
  ·rw[FM (by omega),Ja,a _ (Ei (by omega) (by decide))];omega
theorem ZW(h:0<n):be n≠[]:=by rw[FM h];simp
theorem Y1(n:Nat):0<n->(be n).headD 0≠0:=by
 induction n using Nat.strongRecOn with
 |_ n b=>
  intro h;rw[FM h];by_cases d:n/256=0
  ·rw[d,FW];show((n%256:Nat):Int)≠0;omega
  ·have a:=b (n/256) (Ei h (by decide)) (by omega);have c:=ZW (n:=n/256) (by omega);cases hd:be (n/256)with
   |nil=>exact absurd hd c
   |cons x r=>rw[hd]at a;exact a
theorem VM{a b:τ}(h:a≠[]):(a++b).headD 0=a.headD 0:=by
 cases a with
 |nil=>exact absurd rfl h
 |cons x r=>rfl
theorem VN(h:55<n)(b:n<16777216)(r:τ):lenIn (be n++r) (nb n)=(n,0):=by
 have c:=Gz b;have e:(be n++r).take (nb n)=be n:=by rw[<-JK,D6]
 unfold lenIn;rw[Ae (by omega),Ae (by rw[Af,JK];omega),e,Xat,VM (ZW (by omega)),Ae];rintro(a|a)
 ·exact Y1 n (by omega) a
 ·omega
theorem OV(a:base=128∨base=192)(b:n<=63)(h:base=128->n<64):nOf ((base+n:Nat):Int)=n:=by
 unfold nOf;rcases a with rfl|rfl
 ·split<;>omega
 ·split<;>omega
theorem VO{deep:Bool}(b:base=128∨base=192)(f:base=192->deep=false)(a e:τ)(i:a.length<=16777215):
 hdr deep (hd base a.length++(a++e))= .ok (hd base a.length).length ((hd base a.length).length+a.length):=by
 unfold hd;by_cases h:a.length<=55
 ·rw[Ai h];have d:=OV (n:=a.length) b (by omega) (by omega);show hdr deep (((base+a.length:Nat):Int)::(a++e))=_;unfold hdr;simp only;rw[Ae (by rintro⟨g,c⟩;rcases b with rfl|rfl;omega;rw[f rfl]at c;cases c),Ae (by rcases b with rfl|rfl<;>omega),d,Ae (by omega),Ae (by simp only[AE,Af];omega)];rfl
 ·rw[Ae h];have j:=Gz (n:=a.length) (by omega);have g:=ZS (n:=a.length) (by omega);have d:=OV (n:=55+nb a.length) b (by omega) (by omega);rw[show base+(55+nb a.length)=base+55+nb a.length from by omega]at d;show hdr deep (((base+55+nb a.length:Nat):Int)::(be a.length++(a++e)))=_;unfold hdr;simp only;rw[Ae (by rintro⟨g,c⟩;rcases b with rfl|rfl;omega;rw[f rfl]at c;cases c),Ae (by rcases b with rfl|rfl<;>omega),d,Ai (by omega),show 55+nb a.length-55=nb a.length from by omega,VN (by omega) (by omega)];simp only;rw[Ae (by simp),Ae (by simp only[AE,Af,JK];omega)];simp only[AE,JK];congr 1<;>omega
theorem NO(base n:Nat):1<=(hd base n).length:=by rw[hd_len];omega
theorem Jg(t:T):1<=(enc t).length:=by
 obtain⟨l,bs,its⟩:=t;rw[Ea];split
 ·rename_i h;unfold bare at h;simp only[BZ,Co]at h;have:=h.2.1;omega
 ·rw[Af];have:=NO (baseOf l) (bs++encs its).length;omega
theorem EN(t:T):(bodyOf t).length<=(enc t).length:=by
 obtain⟨l,bs,its⟩:=t;show(bs++encs its).length<=_;rw[Ea];split
 ·exact Ab _
 ·exact Au (Nat.le_add_left _ _) (Nat.le_of_eq List.length_append.symm)
theorem OW(h a b:τ):((h++(a++b)).take (h.length+a.length)).drop h.length=a:=by
 rw[<-AX,List.take_left' (by rw[Af]),Cn]
theorem Sa(a:base=128∨base=192)(b:n<16777216)(r:τ):(hd base n++r).headD 0<192↔base=128:=by
 have c:=Gz b;unfold hd;split
 ·show((base+n:Nat):Int)<192↔_;rcases a with rfl|rfl<;>omega
 ·show((base+55+nb n:Nat):Int)<192↔_;rcases a with rfl|rfl<;>omega
theorem OX(g:τ->R)(deep:Bool)(bs a:τ)(l:bs.length<=16777215):rd1 g deep (enc (.mk false bs [])++a)= .ok (.mk false bs []) (enc (.mk false bs [])).length:=by
 rw[Ea,Ct,A7];by_cases b:bare false bs=true
 ·rw[Ai b];unfold bare at b;simp only[Bool.not_false,Du,BZ,Co]at b
  match bs,b with
  |[x],⟨_,c⟩=>
   have i:x<128:=c;show rd1 g deep (x::a)=_;have e:hdr deep (x::a)= .ok 0 1:=by
    unfold hdr;simp only;rw[Ae (by omega),Ai i]
   unfold rd1;rw[e];simp only;rw[Ai (show(x::a).headD 0<192 by show x<192;omega),Ae (by simp)];rfl
 ·rw[Ae b,baseOf,Ae (by simp),AX];have e:=VO (deep:=deep) (base:=128) (.inl rfl) (λh=>by cases h) bs a l;unfold rd1;rw[e];simp only;have d:(hd 128 bs.length++(bs++a)).headD 0<192:=(Sa (base:=128) (Or.inl rfl) (n:=bs.length) (by omega) (bs++a)).2 rfl;rw[Ai d,OW,Af,Ae];rintro⟨o,c,f⟩;apply b;have j:bs.length=1:=by omega
  have m:hd 128 bs.length=[((128+bs.length:Nat):Int)]:=by unfold hd;rw[Ai (by omega)]
  rw[m]at f;clear d e;obtain⟨x,rfl⟩:=List.length_eq_one_iff.1 j;have k:x<128:=f;unfold bare;simp[k]
theorem Ly{g:τ->R}:∀(its:List T)(fuel:Nat),(encs its).length<=fuel->(∀t∈its,∀b,g (enc t++b)= .ok t (enc t).length)->rdAll g fuel (encs its)= .ok its
 |[],fuel,_,_=>by rw[Ct,EZ]
 |t::r,fuel,a,h=>by
  rw[C9]at a⊢;have i:=Jg t;rw[Af]at a;obtain⟨f,rfl⟩:∃f,fuel=f+1:=⟨fuel-1,by omega⟩;have c:enc t++encs r≠[]:=by
   intro e;have:=Ao List.length e;rw[Af,BV]at this;omega
  rw[Gi c (h t (C0 ..) _),Cn,Ly r f (by omega) (λu d=>h u (Az _ d))]
theorem Fl:∀{its:List T}{t:T},t∈its->(enc t).length<=(encs its).length
 |x::r,t,a=>by
  rw[C9,Af];rcases Ay.1 a with rfl|a
  ·omega
  ·have:=Fl a;omega
theorem Xau:∀t,∀k d w a,d+k=8->(wk t d w).2=0->(bodyOf t).length<=16777215->rd k (enc t++a)= .ok t (enc t).length:=by
 refine T.ind λl bs its r k d w a y h g=>?_;obtain⟨u,o,z,s⟩:=OK h;have f:=EM o;cases l with
 |false=>
  have q:its=[]:=by simpa using f
  subst q;have b:bs.length<=16777215:=by
   have:(bs++encs []).length<=16777215:=g;rwa [Ct,A7]at this
  cases k with
  |zero=>exact OX _ _ _ _ b
  |succ k=>exact OX _ _ _ _ b
 |true=>
  have m:bs=[]:=by simpa using f
  subst m;have x:=u rfl;obtain⟨k,rfl⟩:∃v,k=v+1:=⟨k-1,by omega⟩;have b:(encs its).length<=16777215:=by
   have:(([]:τ)++encs its).length<=16777215:=g;rwa [AH]at this
  rw[s]at h;have i:∀t∈its,∀a,rd k (enc t++a)= .ok t (enc t).length:=by
   intro t c a;obtain⟨w',j⟩:=NK h t c;have A:=EN t;have B:=Fl c;exact r t c k (d+1) w' a (by omega) j (by omega)
  rw[Ea,AH,Ae (by simp[bare]),baseOf,Ai rfl,AX];have e:=VO (deep:=false) (base:=192) (.inr rfl) (λ_=>rfl) (encs its) a b;show rd1 (rd k) false _=_;unfold rd1;rw[e];simp only;have p:¬(hd 192 (encs its).length++(encs its++a)).headD 0<192:=λh=>by
   have:=(Sa (base:=192) (Or.inr rfl) (n:=(encs its).length) (by omega) (encs its++a)).1 h;omega
  rw[Ae p,OW,Ly its _ (Ab _) i,Af]
theorem Xav{t:T}(h:(mP t).2=0)(a:τ):rd 8 (enc t++a)= .ok t (enc t).length:=by
 obtain⟨b,d,_⟩:=ZU h;have c:=IZ t 0 0 b;exact Xau t 8 0 0 a rfl b (by rw[<-IY c];omega)
theorem Jh{t:T}(h:(mP t).2=0):decP (enc t)= .ok t:=by
 have:=Xav h [];rw[A7]at this;unfold decP;rw[this];simp only;rw[Ae (by omega)]
def Deep(d:Nat)(t:T):Prop:=∀w,w+(enc t).length<=16777215->((wk t d w).2=0/\(wk t d w).1<=w+(enc t).length)∨(wk t d w).2=21
theorem Sb(h:n<16777216):(hd base n).length<=4:=by
 rw[hd_len];have:=Gz h;split<;>omega
end
section
open Ni (unpP packP rightP)
variable {dk' : List Int → Int} {b : List Int} {u : T}
structure PR where
 k:Int
 d:τ
 i:τ
structure PN where
 k:Int
 p:τ
 v:τ
 c:PR
 ks:List PR
def z32:τ:=List.replicate 32 0
def r0:PR:=⟨0,z32,[]⟩
def n0:PN:=⟨0,[],[],r0,[]⟩
def t0:T:= .mk false [] []
def refOfP(t:T):Option PR:=
 if t.l=true then(if(mP t).2=0 then some ⟨1,z32,enc t⟩else none)
 else if t.bs.length=0 then some r0
 else if t.bs.length=32 then some ⟨2,t.bs,[]⟩else none
def pathP(x y:T):Option PN:=
 if x.l=true∨(unpP x.bs).2.2≠0 then none
 else if(unpP x.bs).2.1=true then(if y.l=true then none else some ⟨1,(unpP x.bs).1,y.bs,r0,[]⟩)
 else match refOfP y with
  |none=>none
  |some c=>some ⟨2,(unpP x.bs).1,[],c,[]⟩
def kidsP:List T->Option (List PR)
 |[]=>some []
 |t::r=>match refOfP t with
  |none=>none
  |some a=>match kidsP r with
   |none=>none
   |some l=>some (a::l)
def branchP(ts:List T)(y:T):Option PN:=match kidsP ts with
 |none=>none
 |some ks=>if y.l=true then none else some ⟨3,[],y.bs,r0,ks⟩
def nodeOfP(t:T):Option PN:=
 if t.its.length=2 then pathP (t.its.getD 0 t0) (t.its.getD 1 t0)
 else if t.its.length=17 then branchP (t.its.take 16) (t.its.getD 16 t0)else none
def kd(o:Option PN):Int:=match o with
 |none=>0
 |some n=>n.k
def rrefP(dk:τ->Int)(r:PR):Bool:=
 if r.k=0 then decide (r.d=z32)&&decide (r.i.length=0)
 else if r.k=2 then decide (r.i.length=0)
 else if r.k=1 then decide (r.d=z32)&&decide (r.i.length<32)&&decide (dk r.i≠0)
 else false
def rpathP(n:PN):Bool:=
 if n.k=2 then(if n.p.length=0 then false else decide (n.p.length<=64)&&rightP n.p)
 else if n.k=1 then decide (n.p.length<=64)&&rightP n.p
 else decide (n.p.length=0)
def rvalueP(n:PN):Bool:=
 if n.k=1 then(if n.v.length=0 then false else decide (n.v.length<=256))
 else if n.k=3 then decide (n.v.length<=256)
 else decide (n.v.length=0)
def rchildP(dk:τ->Int)(n:PN):Bool:=
 if rrefP dk n.c=false then false
 else if n.k≠2 then decide (n.c.k=0)
 else decide (n.c.k=2)||decide (dk n.c.i=3)
def ways:List PR->Nat
 |[]=>0
 |r::l=>(if r.k≠0 then 1 else 0)+ways l
def rkidsP(dk:τ->Int)(n:PN):Bool:=
 if n.k≠3 then decide (n.ks.length=0)
 else if n.ks.length≠16 then false
 else n.ks.all (rrefP dk)&&decide (2<=(if 0<n.v.length then 1 else 0)+ways n.ks)
def knownP(n:PN):Bool:=decide (n.k=1)||decide (n.k=2)||decide (n.k=3)
def nright(dk:τ->Int)(n:PN):Bool:=knownP n&&rpathP n&&rvalueP n&&rchildP dk n&&rkidsP dk n
def ndec:Nat->τ->Option PN
 |0,_=>none
 |f+1,b=>match decP b with
  | .bad _=>none
  | .ok t=>match nodeOfP t with
   |none=>none
   |some n=>if nright (λi=>kd (ndec f i)) n=true then some n else none
def ND(b:τ):Option PN:=ndec 33 b
def KD(b:τ):Int:=kd (ND b)
def NR(n:PN):Bool:=nright KD n
def refItemP(r:PR):T:=
 if r.k=1 then(match decP r.i with| .ok t=>t| .bad _=>t0)
 else if r.k=2 then .mk false r.d []else t0
def itemP(n:PN):T:=
 if n.k=3 then .mk true [] (n.ks.map refItemP++[.mk false n.v []])
 else if n.k=1 then .mk true [] [.mk false (packP n.p true).1 [], .mk false n.v []]
 else .mk true [] [.mk false (packP n.p false).1 [],refItemP n.c]
def isB(b:τ):Prop:=∀x∈b,0<=x/\x<256
def okR(r:PR):Prop:=isB r.d/\r.d.length=32/\isB r.i
def okN(n:PN):Prop:=isB n.p/\isB n.v/\okR n.c/\∀r∈n.ks,okR r
theorem Lz{dk:τ->Int}{r:PR}(h:r.i.length<32->dk r.i=dk' r.i):rrefP dk r=rrefP dk' r:=by
 unfold rrefP;by_cases a:r.i.length<32
 ·rw[h a]
 ·simp[a]
theorem IC{dk:τ->Int}{r:PR}(h:rrefP dk r=true):r.i.length<32:=by
 unfold rrefP at h;by_cases c:r.k=0
 ·simp[c]at h;rw[h.2];decide
 ·by_cases b:r.k=2
  ·simp[b]at h;rw[h];decide
  ·by_cases a:r.k=1
   ·simp[a]at h;omega
   ·simp[c,a,b]at h
theorem MD{dk dk':τ->Int}:∀{a:List PR},(∀r∈a,r.i.length<32->dk r.i=dk' r.i)->a.all (rrefP dk)=a.all (rrefP dk')
 |[],_=>rfl
 |r::l,h=>by
  rw[List.all_cons,List.all_cons,Lz (h r (by simp)),MD λx b=>h x (Az _ b)]
theorem Ji{dk:τ->Int}{n:PN}(a:n.c.i.length<32->dk n.c.i=dk' n.c.i)(b:∀r∈n.ks,r.i.length<32->dk r.i=dk' r.i):nright dk n=nright dk' n:=by
 unfold nright rchildP rkidsP;rw[MD b,Lz a];by_cases h:rrefP dk' n.c=false
 ·simp[h]
 ·rw[a (IC (by simpa using h))]
theorem G0{t:T}(i:isB b)(h:decP b= .ok t):enc t=b/\(mP t).2=0/\form t=true:=by
 have g:rd 8 b= .ok t b.length:=by
  unfold decP at h;cases a:rd 8 b with
  |bad e=>rw[a]at h;cases h
  |ok t' n=>
   rw[a]at h;dsimp only at h;have:=OL a;by_cases f:n<b.length
   ·rw[Ai f]at h;cases h
   ·rw[Ae f]at h;cases h;rw[show n=b.length from by omega]
 obtain⟨d,c⟩:=Yz i g;refine⟨?_,c,(Jd c).2.2⟩;unfold encP at d;rw[Ai c]at d;exact Ao Prod.fst d
theorem Ki{t:T}(a:form t=true)(h:0<t.its.length):t.l=true/\t.bs=[]/\forms t.its=true:=by
 obtain⟨l,bs,its⟩:=t;cases l with
 |false=>rw[Ej a]at h;exact absurd h (by simp[T.its])
 |true=>exact⟨rfl,EL a⟩
theorem Y2{t:T}(h:t.l=true)(a:t.bs=[]):enc t=hd 192 (encs t.its).length++encs t.its:=by
 obtain⟨l,bs,its⟩:=t;simp only[T.l,T.bs]at h a;subst h a;rw[Ea,AH,Ae (by simp[bare]),baseOf,Ai rfl];rfl
theorem FB{l:List T}{i:Nat}(h:i<l.length):l.getD i t0∈l:=by
 rw[List.getD,Ad h];exact Bh h
theorem Jj:∀{its:List T}{t:T},t∈its->∀x∈enc t,x∈encs its
 |y::r,t,a,x,b=>by
  rw[C9];rcases Ay.1 a with rfl|a
  ·exact DJ _ b
  ·exact DB _ (Jj a x b)
theorem Jk{t:T}(g:isB b)(h:decP b= .ok t)(a:u∈t.its):(enc u).length<b.length/\∀x∈enc u,x∈b:=by
 obtain⟨c,j,f⟩:=G0 g h;obtain⟨e,d,k⟩:=Ki f (List.length_pos_of_mem a);rw[Y2 e d]at c;have:=Fl a;have:=NO 192 (encs t.its).length;rw[<-c];refine⟨by rw[Af];omega,λx i=>DB _ (Jj a x i)⟩
theorem Y3{r:PR}(h:refOfP u=some r):r.i=enc u∨r.i=[]:=by
 unfold refOfP at h;by_cases d:u.l=true
 ·rw[Ai d]at h;by_cases b:(mP u).2=0
  ·rw[Ai b]at h;cases h;exact .inl rfl
  ·rw[Ae b]at h;cases h
 ·rw[Ae d]at h;by_cases c:u.bs.length=0
  ·rw[Ai c]at h;cases h;exact .inr rfl
  ·rw[Ae c]at h;by_cases a:u.bs.length=32
   ·rw[Ai a]at h;cases h;exact .inr rfl
   ·rw[Ae a]at h;cases h
theorem L0:∀{ts:List T}{c:List PR},kidsP ts=some c->c.length=ts.length/\∀r∈c,∃u∈ts,refOfP u=some r
 |[],c,h=>by cases h;exact⟨rfl,λr b=>by cases b⟩
 |t::l,c,h=>by
  rw[kidsP]at h;cases b:refOfP t with
  |none=>rw[b]at h;cases h
  |some a=>
   rw[b]at h;dsimp only at h;cases f:kidsP l with
   |none=>rw[f]at h;cases h
   |some l'=>
    rw[f]at h;cases h;obtain⟨i,g⟩:=L0 f;refine⟨by simp[i],λr d=>?_⟩;rcases Ay.1 d with rfl|d
    ·exact⟨t,by simp,b⟩
    ·obtain⟨u,j,e⟩:=g r d;exact⟨u,by simp[j],e⟩
theorem Kj{t:T}{n:PN}(h:nodeOfP t=some n):0<t.its.length/\∀r,(r=n.c∨r∈n.ks)->r.i=[]∨∃u∈t.its,refOfP u=some r:=by
 unfold nodeOfP at h;by_cases g:t.its.length=2
 ·rw[Ai g]at h;refine⟨by omega,?_⟩;unfold pathP at h;split at h
  ·cases h
  ·split at h
   ·split at h
    ·cases h
    ·cases h;intro r a;rcases a with rfl|a
     ·exact .inl rfl
     ·cases a
   ·cases d:refOfP (t.its.getD 1 t0)with
    |none=>rw[d]at h;cases h
    |some c=>
     rw[d]at h;cases h;intro r a;rcases a with rfl|a
     ·exact .inr ⟨_,FB (by omega),d⟩
     ·cases a
 ·rw[Ae g]at h;by_cases f:t.its.length=17
  ·rw[Ai f]at h;refine⟨by omega,?_⟩;unfold branchP at h;cases b:kidsP (t.its.take 16)with
   |none=>rw[b]at h;cases h
   |some j=>
    rw[b]at h;dsimp only at h;split at h
    ·cases h
    ·cases h;intro r a;rcases a with rfl|a
     ·exact .inl rfl
     ·obtain⟨u,i,e⟩:=(L0 b).2 r a;exact .inr ⟨u,Bb i,e⟩
  ·rw[Ae f]at h;cases h
theorem GL{t:T}{n:PN}(c:isB b)(h:decP b= .ok t)(l:nodeOfP t=some n):∀r,(r=n.c∨r∈n.ks)->r.i.length<b.length/\isB r.i:=by
 obtain⟨j,g⟩:=Kj l;have m:=(Jk c h (FB j)).1;intro r d;rcases g r d with e|⟨u,i,e⟩
 ·rw[e];exact⟨by simp;omega,λx a=>by cases a⟩
 ·obtain⟨k,f⟩:=Jk c h i;rcases Y3 e with e|e
  ·rw[e];exact⟨k,λx a=>c x (f x a)⟩
  ·rw[e];exact⟨by simp;omega,λx a=>by cases a⟩
theorem T4:∀(L:Nat)(b:τ),b.length<=L->isB b->∀f a,b.length<f->b.length<a->ndec f b=ndec a b:=by
 intro L
 induction L using Nat.strongRecOn with
 |_ L j=>
  intro b s k f a p o;obtain⟨g,rfl⟩:∃g,f=g+1:=⟨f-1,by omega⟩;obtain⟨g',rfl⟩:∃g',a=g'+1:=⟨a-1,by omega⟩;rw[ndec,ndec];cases hd:decP b with
  |bad e=>rfl
  |ok t=>
   dsimp only;cases m:nodeOfP t with
   |none=>rfl
   |some n=>
    dsimp only;have l:=GL k hd m;have d:∀r,(r=n.c∨r∈n.ks)->ndec g r.i=ndec g' r.i:=λr c=>by
     obtain⟨q,h⟩:=l r c;exact j r.i.length (by omega) r.i (Ab _) h g g' (by omega) (by omega)
    rw[Ji (dk:=λi=>kd (ndec g i)) (dk':=λi=>kd (ndec g' i)) (λ_=>by rw[d _ (.inl rfl)]) (λr c _=>by rw[d _ (.inr c)])]
theorem Sc(f:isB b):ND b=match decP b with
 | .bad _=>none
 | .ok t=>match nodeOfP t with
  |none=>none
  |some n=>if NR n=true then some n else none:=by
 show ndec (32+1) b=_;rw[ndec];cases hd:decP b with
 |bad e=>rfl
 |ok t=>
  dsimp only;cases j:nodeOfP t with
  |none=>rfl
  |some n=>
   dsimp only;have g:=GL f hd j;have c:∀r,(r=n.c∨r∈n.ks)->r.i.length<32->ndec 32 r.i=ND r.i:=λr a k=>by
    obtain⟨l,d⟩:=g r a;exact T4 r.i.length r.i (Ab _) d 32 33 (by omega) (by omega)
   rw[Ji (dk:=λi=>kd (ndec 32 i)) (dk':=KD) (λh=>by unfold KD;rw[c _ (.inl rfl) h]) (λr a h=>by unfold KD;rw[c _ (.inr a) h])];rfl
theorem Fg{n:PN}(d:isB b)(h:ND b=some n):∃t,decP b= .ok t/\nodeOfP t=some n/\NR n=true:=by
 rw[Sc d]at h;cases hd:decP b with
 |bad e=>rw[hd]at h;cases h
 |ok t=>
  rw[hd]at h;dsimp only at h;cases a:nodeOfP t with
  |none=>rw[a]at h;cases h
  |some m=>
   rw[a]at h;dsimp only at h;by_cases c:NR m=true
   ·rw[Ai c]at h;cases h;exact⟨t,rfl,a,c⟩
   ·rw[Ae c]at h;cases h
theorem Xaw{t:T}{n:PN}(c:isB b)(hd:decP b= .ok t)(a:nodeOfP t=some n)(d:NR n=true):ND b=some n:=by
 rw[Sc c,hd];dsimp only;rw[a];dsimp only;rw[Ai d]
theorem KF{n:PN}(h:NR n=true):n.k=1∨n.k=2∨n.k=3:=by
 unfold NR nright knownP at h;simp only[BZ,Bool.or_eq_true,Co]at h;omega
theorem Ih(h:KD b≠0):∃n,ND b=some n/\n.k=KD b:=by
 unfold KD at h⊢;cases a:ND b with
 |none=>rw[a]at h;exact absurd rfl h
 |some n=>exact⟨n,rfl,rfl⟩
end
end Go.Proofs.YtkdlocloepbmcaaGreat
