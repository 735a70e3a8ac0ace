/- What the document's items answers, by what first answers. -/
import Derived.Test.YtkdlocloepbmcaaGreatG14
set_option linter.unusedVariables false
set_option linter.unusedSimpArgs false
set_option maxRecDepth 100000
set_option maxHeartbeats 4000000
open Go.Proofs.Tryz Go.RowKit
namespace Go.Proofs.YtkdlocloepbmcaaGreat
section
variable {g base n : Nat} {w U : World} {ys : List V}
theorem Uj{N:Nat}{u v:Γ}(h:Below N u v){o t:Nat}{cs:Ξ}(d:g<N)(a:u.heap[g]?=some (.cells cs t))(x:Δ):Below N (u.setCell ⟨g,o,none⟩ x) (v.setCell ⟨g,o,none⟩ x):=by
 have b:=(h.block g d).trans a;refine⟨h.os,h.tape,h.output,by simpa using h.size,λk c=>?_⟩;by_cases e:k=g
 ·subst e;rw[AU u k o _ t x a,AU v k o _ t x b]
 ·rw[AA _ _ _ _ e,AA _ _ _ _ e];exact h.block k c
structure Ib(w v U:World)(it:Value)(ts:List T)(ys:List V):Prop where
 sz:U.heap.size=w.heap.size+2
 res:U.heap[w.heap.size]?=some (.cells #[.bool false, .slice none 0 0, .slice none 0 0] 108)
 box:U.heap[w.heap.size+1]?=some (.cells #[.bool true, .slice none 0 0,it] 108)
 bw:Below w.heap.size w U
 bel:Below U.heap.size U v
 own:OwnI v U.heap.size it ys
 all:AllP (λb=>U.heap.size<=b/\it.ownBlock≠some b) v ts ys
theorem XaH(w:Γ):Ib w ((w.alloc (.cells #[β false,ε,ε] 108)).alloc (.cells #[β true,ε,ε] 108)) ((w.alloc (.cells #[β false,ε,ε] 108)).alloc (.cells #[β true,ε,ε] 108)) (ε) [] []:=
 ⟨by simp,(Ax _ _ _ (by simp)).trans (Ak _ _),heap_alloc2_new _ _ _,((Ac _ _).alloc (Ab _) _).alloc (by simp) _,Ac _ _,Dg _ _ _ _,trivial⟩
theorem Za{v w1:Γ}{it:Δ}{ts:List T}{y:V}{t:T}(h:Ib w v U it ts ys)(l:Λ v w1)(n:LiesP (λb=>v.heap.size<=b) w1 t y)(k:ys.length<=1000000000)(ty:TypeId):
 ∃a c,(Builtin.append_ #[106,106] ty #[it,σ (some ⟨w1.heap.size+1,0,none⟩) 1 1]).run prog ((w1.alloc (.cells #[β y.l,σ y.ba y.bn y.bc,σ y.ia y.m y.ic] 108)).alloc (.cells #[β y.l,σ y.ba y.bn y.bc,σ y.ia y.m y.ic] 108))= .ok a c/\
  Λ U c/\Ib w (c.setCell ⟨w.heap.size+1,2,none⟩ a) (U.setCell ⟨w.heap.size+1,2,none⟩ a) a (ts++[t]) (ys++[y]):=by
 obtain⟨a,c,j,f,m,d⟩:=Lw h.own h.all h.bel l n k ty;have q:=h.sz;refine⟨a,c,j,d,⟨by simpa using q,(AA _ _ _ _ (show w.heap.size≠w.heap.size+1 by omega)).trans h.res,?_,h.bw.setCell (by simp) _,?_,?_,?_⟩⟩
 ·have:=AU U (w.heap.size+1) 2 _ 108 a h.box;simpa using this
 ·have:=Uj d (g:=w.heap.size+1) (o:=2) (by omega) h.box a;simpa using this
 ·have e:(U.setCell ⟨w.heap.size+1,2,none⟩ a).heap.size=U.heap.size:=by simp
  rw[e];exact Eg f (λg p _=>AA _ _ _ _ (show g≠w.heap.size+1 by have:=(Fa f p).1;omega))
 ·have e:(U.setCell ⟨w.heap.size+1,2,none⟩ a).heap.size=U.heap.size:=by simp
  rw[e];exact m.mono λb i _=>⟨AA _ _ _ _ (show b≠w.heap.size+1 by have:=i.1;omega),i⟩
theorem Uk{v:Δ}(h:OwnI w base v ys):∃a n c,v=σ a n c:=by
 rcases h.2 with⟨d,_⟩|⟨g,cap,cur,b,_⟩
 ·exact⟨_,_,_,d⟩
 ·exact⟨_,_,_,b⟩
theorem Ib.cells{v:Γ}{it:Δ}{ts:List T}(h:Ib w v U it ts ys){v':Γ}(c:Λ U v'):
 (∀o,v'.frozen? ⟨w.heap.size,o,none⟩=false)/\(∀o,v'.frozen? ⟨w.heap.size+1,o,none⟩=false)/\v'.cell? ⟨w.heap.size,0,none⟩=some (β false)/\v'.cell? ⟨w.heap.size,1,none⟩=some (ε)/\v'.cell? ⟨w.heap.size,2,none⟩=some (ε)/\v'.cell? ⟨w.heap.size+1,0,none⟩=some (β true)/\v'.cell? ⟨w.heap.size+1,1,none⟩=some (ε)/\v'.cell? ⟨w.heap.size+1,2,none⟩=some it:=by
 have b:=Below.row c h.res;have a:=Below.row c h.box;exact⟨λo=>AN _ _ _ _ _ b,λo=>AN _ _ _ _ _ a,by rw[Aj _ _ _ _ _ _ b];rfl,by rw[Aj _ _ _ _ _ _ b];rfl,by rw[Aj _ _ _ _ _ _ b];rfl,by rw[Aj _ _ _ _ _ _ a];rfl,by rw[Aj _ _ _ _ _ _ a];rfl,by rw[Aj _ _ _ _ _ _ a];rfl⟩
theorem Ra(k:Nat)(J:FSaid k)(a:Ω)(n c:Nat)(b:τ)(w:Γ)(h:Ag w a n c b)(hn:n<=140737488351232)(i j d:Nat)(ai:i<=j)(hj:j<=n)(hl:j-i<16777216)(hd:d+k=8):
 Calls prog 174 #[σ a n c,ι i,ι j,ι d] w (GPost w j (rdAll (rd k) (pc b i j).length (pc b i j))):=by
 have HF:=Aa J;have C:=Aa h;obtain⟨O,E⟩:∃r,rdAll (rd k) (pc b i j).length (pc b i j)=r:=⟨_,rfl⟩;rw[E];have aa:=Aa E;clear J h E;go_enter func174,ntmps174;go_wp2_with fail
 go_loopw [1] (λp v=>∃(q:Nat)(U:Γ)(it:Δ)(ts:List T)(ys:List V),p=ι q/\i<=q/\q<=j/\ts.length<=q-i/\O=RL.pre ts (rdAll (rd k) (pc b q j).length (pc b q j))/\Ib w v U it ts ys) (λp _=>j-(intOf p).toNat)
 case atStart=>exact⟨i,_,_,[],[],rfl,Ab _,ai,by simp,by rw[RZ];exact aa.out.symm,XaH w⟩
 case round=>
  obtain⟨q,U,it,ts,ys,rfl,av,ay,aw,x,H⟩:=hrel;obtain⟨S,Y,c0,c1,c2,Q,e1,X⟩:=H.cells H.bel;have l:=Aa H;have G:=Aa x;clear H x;by_cases N:q<j
  ·have am:(q:Int)<j:=(by omega);have M:=HF.out a n c b wr (C.out.at (below_go l.out.bw l.out.bel)) hn q j d (by omega) hj hd;have HC:=Aa M;clear M;go_wp2_with fail;refine HC.out.mono ?_;rintro e w1⟨B,D⟩;cases o:rd k (pc b q j)with
   |bad R=>
    rw[o]at D;obtain⟨rfl,ae⟩:=D;have z:pc b q j≠[]:=by
     intro e;have:=IL (b:=b) (i:=q) (j:=j) (by rw[C.out.l];omega);rw[e]at this;simp at this;omega
    have A:O= .bad R:=by
     rw[G.out];obtain⟨u,hu⟩:∃u,(pc b q j).length=u+1:=⟨(pc b q j).length-1,by have:=BH.2 z;omega⟩;rw[hu,FA z o];rfl
    subst A;have aq:((R:Int) !=0)=true:=(by rw[BU];omega);have s:=below_go l.out.bel (below_go B (below_new w1 (.cells #[β false,ε,ε] 108)));obtain⟨S,Y,c0,c1,c2,Q,e1,X⟩:=l.out.cells s;have ao:=Aa (below_go l.out.bw s);have ad:=Aa (Below.row s l.out.res);clear B s o z HC;go_wp2_with fail;have o:=put3 ad.out (β false) (ε) (ε);refine Aq (Bf results174 _ _ w.heap.size _ _ _ rfl o) rfl ?_;exact⟨Ci ao.out (Ab _) _ _ _,rfl,ae⟩
   |ok t m=>
    rw[o]at D;obtain⟨y,rfl,hy⟩:=D;have al:=OL o;rw[IL (by rw[C.out.l];omega)]at al;have aj:ys.length<=1000000000:=(by have:=l.out.all.len;omega);obtain⟨az,w3,L,Z,I⟩:=Za l.out B hy aj 106;obtain⟨ax,n',ar,rfl⟩:=Uk I.own;have z:pc b q j≠[]:=by
     intro e;have:=IL (b:=b) (i:=q) (j:=j) (by rw[C.out.l];omega);rw[e]at this;simp at this;omega
    have x:=OR (f:=rd k) (ts:=ts) (λb t m h=>(OL h).1) z o;have K:(pc b q j).drop m=pc b (q+m) j:=(by unfold pc;rw[List.drop_drop]);rw[K,<-G.out]at x;have s:=below_go l.out.bel (below_go B (below_new w1 (.cells #[β y.l,σ y.ba y.bn y.bc,σ y.ia y.m y.ic] 108)));have ap:=below_go s (below_new _ (.cells #[β y.l,σ y.ba y.bn y.bc,σ y.ia y.m y.ic] 108));obtain⟨S,Y,c0,c1,c2,Q,e1,X⟩:=l.out.cells s;obtain⟨g1,g2,d0,d1,d2,h0,h1,h2⟩:=l.out.cells Z;have ab:=Aa L;have ac:=Aa I;have af:=Aa x;clear B s ap o z HC hy L Z I x K;go_wp2_with (first|refine Eu rfl _ _ rfl _ _ rfl rfl ab.out ?_);refine⟨⟨q+m,_,_,ts++[t],ys++[y],by simp,by omega,by omega,by rw[Af];simp;omega,af.out,ac.out⟩,by simp[intOf];omega⟩
  ·have ah:q=j:=(by omega);subst ah;have am:¬(q:Int)<q:=(by omega);have A:=G.out;rw[WB (Ab _),EZ]at A;simp only[RL.pre,A7]at A;subst A;obtain⟨ia,ic,ak,q1,q2,W⟩:=Lv (P:=λb=>U.heap.size<=b) l.out.own (l.out.all.mono λb F _=>⟨rfl,F.1⟩) (λg hg=>(Fa l.out.own hg).1);subst ak;have HQ:=Aa W;clear W;go_wp2_with fail;have o:=put3 (Below.row l.out.bel l.out.res) (β true) (ε) (σ ia ts.length ic);refine Aq (Bf results174 _ _ w.heap.size _ _ _ rfl o) rfl ?_;have hs:=l.out.sz;refine⟨Ci (below_go l.out.bw l.out.bel) (Ab _) _ _ _,ia,ic,rfl,q1,q2,?_⟩;exact DN (λb(F:U.heap.size<=b) N=>⟨Dk (by omega) _ _ _,by omega⟩) (λu _=>BD (λb(F:U.heap.size<=b) N=>⟨Dk (by omega) _ _ _,by omega⟩) u) HQ.out
theorem Zb{g:τ->R}{deep:Bool}{x:Int}{r:τ}(h:x<128):rd1 g deep (x::r)= .ok (.mk false [x] []) 1:=by
 have e:hdr deep (x::r)= .ok 0 1:=by
  unfold hdr;simp only;rw[Ae (by omega),Ai h]
 unfold rd1;rw[e];simp only;rw[Ai (show(x::r).headD 0<192 by show x<192;omega),Ae (by simp)];rfl
theorem K3(k:Nat)(f:τ->R)(o:∀b,rd k b=rd1 f (decide (k=0)) b)(s:∀b t m,f b= .ok t m->1<=m/\m<=b.length)
 (q:0<k->∀d,d+k=8->∀(a:Ω)(n c:Nat)(b:τ)(w:Γ),Ag w a n c b->n<=140737488351232->∀i j:Nat,i<=j->j<=n->j-i<16777216->Calls prog 174 #[σ a n c,ι i,ι j,ι (d+1:Nat)] w (GPost w j (rdAll f (pc b i j).length (pc b i j)))):FSaid k:=by
 intro a n c b w h l i j d y g hd;have r:decide (k=0)=decide (d=8):=by by_cases x:k=0<;>simp[x]<;>omega
 by_cases e:i<j
 case neg=>exact QY a n c i j d w k b e (by omega) (by rw[WB (by omega),o];exact Fh rfl)
 rw[J5 e (by rw[h.l];omega),o,r];by_cases p:b.getD i 0<128
 ·exact QZ a n c i j d w b h l e g _ rfl p _ (Zb p)
 by_cases v:b.getD i 0<192
 ·exact PD f a n c i j d w b h l e g (by omega) _ rfl (by omega) v _ rfl
 by_cases u:d=8
 ·subst u;exact PC a n c i j w b h l e g _ rfl (by omega) _ (Fh (by rw[AF rfl];exact OT (by omega)))
 ·exact PE f a n c i j d w b h l e g (by omega) _ rfl (by omega) (by omega) (q (by omega) d hd) s _ rfl
theorem LZ:∀k,FSaid k
 |0=>K3 0 (λ_=> .bad 21) (λb=>rfl) (λb t m h=>by cases h) (λh=>absurd h (by omega))
 |k+1=>K3 (k+1) (rd k) (λb=>rfl) (λb t m h=>OL h) (λ_ d hd a n c b w h l i j e g f=>Ra k (LZ k) a n c b w h l i j (d+1) e g f (by omega))
theorem Rc(a:Ω)(n c:Nat)(b:τ)(w:Γ)(h:Ag w a n c b)(A:n<=140737488351232):Calls prog 159 #[σ a n c] w (ReadPost w (rd 8 b)):=by
 have k:pc b 0 n=b:=by unfold pc;rw[C1,A9 (by rw[h.l];exact Ab _)]
 have g:=λw'(d:Λ w w')=>LZ 8 a n c b w' (h.at d) A 0 n 0 (A8 _) (Ab _) rfl;rw[k,show((0:Nat):Int)=0 from rfl]at g;clear k;have j:=Aa g;obtain⟨x,l⟩:∃r,rd 8 b=r:=⟨_,rfl⟩;rw[l]at j⊢;clear g h l;go_enter func159,ntmps159;go_wp2_with fail;refine(j.out _ ((Ac _ _).alloc (Ab _) _)).mono ?_;rintro e w1⟨d,u⟩;have f:w1.heap[w.heap.size]?=some (.cells #[β false,ε,ε] 108):=Below.row d (Ak _ _);have q:Λ w w1:=((Ac w.heap.size w).alloc (Ab _) _).trans (d.mono (by simp));have x0:w1.cell? ⟨w.heap.size,0,none⟩=some (β false):=by rw[Aj _ _ _ _ _ _ f];rfl
 have x1:w1.cell? ⟨w.heap.size,1,none⟩=some (ε):=by rw[Aj _ _ _ _ _ _ f];rfl
 have x2:w1.cell? ⟨w.heap.size,2,none⟩=some (ε):=by rw[Aj _ _ _ _ _ _ f];rfl
 have xf:∀o,w1.frozen? ⟨w.heap.size,o,none⟩=false:=λo=>AN _ _ _ _ _ f;have HR:=Aa f;have p:=Aa q;clear f d q;cases x with
 |bad D=>
  obtain⟨rfl,v⟩:=u;go_wp2_with fail;have i:=put3 HR.out (β false) (ε) (ε);refine Aq (Bf results159 _ _ w.heap.size _ _ _ rfl i) rfl ?_;exact⟨Ci p.out (Ab _) _ _ _,rfl,v⟩
 |ok t m=>
  obtain⟨y,rfl,s⟩:=u;rw[A6];have z:=Aa s;clear s;go_wp2_with fail;have i:=put3 HR.out (β y.l) (σ y.ba y.bn y.bc) (σ y.ia y.m y.ic);refine Aq (Bf results159 _ _ w.heap.size _ _ _ rfl i) rfl ?_;refine⟨Ci p.out (Ab _) _ _ _,y,rfl,BD (λb d B=>?_) t y z.out⟩;have C:w.heap.size+1<=b:=by have:(w.alloc (.cells #[β false,ε,ε] 108)).heap.size<=b:=d;simpa using this
  exact⟨Dk (by omega) _ _ _,by omega⟩
theorem K4(a:Ω)(n c:Nat)(b:τ)(w:Γ)(h:Ag w a n c b)(M:n<=140737488351232):Calls prog 133 #[σ a n c] w (DecPost w (decP b)):=by
 have x:=λw'(j:Λ w w')=>Rc a n c b w' (h.at j) M;have G:=Aa x;have B:=h.l;obtain⟨O,f⟩:∃r,decP b=r:=⟨_,rfl⟩;rw[f];unfold decP at f;have H:=Aa f;have L:=Aa B;clear x h f B;go_enter func133,ntmps133;go_wp2_with fail;refine(G.out _ ((Ac _ _).alloc (Ab _) _)).mono ?_;rintro e w1⟨j,u⟩;have k:=(Rb.new w).call j;clear j;have f:=H.out;cases l:rd 8 b with
 |bad K=>
  rw[l]at u f;obtain⟨rfl,J⟩:=u;subst f;have N:((K:Int) !=0)=true:=by rw[BU];omega
  clear l
  go_upto_if 14 with fail
  refine gen_w (p:=λv=>Code.wp _ _ _ _ v) (q:=λv=>Rb w v/\v.heap[w1.heap.size]?=some (.cells #[β false,ε,ε] 108)) ⟨k.alloc _,Ak _ _⟩ ?_;clear k;rintro v⟨RV,d⟩;have x0:=RV.x0;have x1:=RV.x1;have x2:=RV.x2;have xf:=RV.xf;have E:v.cell? ⟨w1.heap.size,0,none⟩=some (#[β false,ε,ε][0]):=by rw[Aj _ _ _ _ _ _ d];rfl
  have F:v.cell? ⟨w1.heap.size,1,none⟩=some (#[β false,ε,ε][1]):=by rw[Aj _ _ _ _ _ _ d];rfl
  have D:v.cell? ⟨w1.heap.size,2,none⟩=some (#[β false,ε,ε][2]):=by rw[Aj _ _ _ _ _ _ d];rfl
  have g:=Aa RV;clear RV d;go_wp2_with fail;have s:=put3 g.out.row (β false) (ε) (ε);refine Aq (E4 results133 _ _ w.heap.size _ _ _ rfl s) rfl ?_;exact⟨Ci g.out.bel (Ab _) _ _ _,rfl,J⟩
 |ok t m=>
  rw[l]at u f;simp only[L.out]at f;obtain⟨y,rfl,C⟩:=u;have i:Hid (∀o,LiesP (λb=>w.heap.size+1<=b) (w1.alloc o) t y):=λo=>BD (λb j z=>⟨Ax _ _ _ z,by have:(w.alloc (.cells #[β false,ε,ε] 108)).heap.size<=b:=j;simpa using this⟩) t y C;clear C;by_cases A:m<n
  ·rw[Ai A]at f;subst f;have I:(m:Int)<n:=(by omega);clear l
   go_upto_if 14 with fail
   refine gen_w (p:=λv=>Code.wp _ _ _ _ v) (q:=λv=>Rb w v/\v.heap[w1.heap.size]?=some (.cells #[β y.l,σ y.ba y.bn y.bc,σ y.ia y.m y.ic] 108)/\Hid (LiesP (λb=>w.heap.size+1<=b) v t y)) ⟨k.alloc _,Ak _ _,i.out _⟩ ?_;clear k i;rintro v⟨RV,d,i⟩;have x0:=RV.x0;have x1:=RV.x1;have x2:=RV.x2;have xf:=RV.xf;have E:v.cell? ⟨w1.heap.size,0,none⟩=some (#[β y.l,σ y.ba y.bn y.bc,σ y.ia y.m y.ic][0]):=(by rw[Aj _ _ _ _ _ _ d];rfl);have F:v.cell? ⟨w1.heap.size,1,none⟩=some (#[β y.l,σ y.ba y.bn y.bc,σ y.ia y.m y.ic][1]):=(by rw[Aj _ _ _ _ _ _ d];rfl);have D:v.cell? ⟨w1.heap.size,2,none⟩=some (#[β y.l,σ y.ba y.bn y.bc,σ y.ia y.m y.ic][2]):=(by rw[Aj _ _ _ _ _ _ d];rfl);have g:=Aa RV;clear RV d;go_wp2_with fail;have s:=put3 g.out.row (β false) (ε) (ε);refine Aq (E4 results133 _ _ w.heap.size _ _ _ rfl s) rfl ?_;exact⟨Ci g.out.bel (Ab _) _ _ _,rfl,by decide⟩
  ·rw[Ae A]at f;subst f;have I:¬(m:Int)<n:=(by omega);clear l
   go_upto_if 14 with fail
   refine gen_w (p:=λv=>Code.wp _ _ _ _ v) (q:=λv=>Rb w v/\v.heap[w1.heap.size]?=some (.cells #[β y.l,σ y.ba y.bn y.bc,σ y.ia y.m y.ic] 108)/\Hid (LiesP (λb=>w.heap.size+1<=b) v t y)) ⟨k.alloc _,Ak _ _,i.out _⟩ ?_;clear k i;rintro v⟨RV,d,i⟩;have x0:=RV.x0;have x1:=RV.x1;have x2:=RV.x2;have xf:=RV.xf;have E:v.cell? ⟨w1.heap.size,0,none⟩=some (#[β y.l,σ y.ba y.bn y.bc,σ y.ia y.m y.ic][0]):=(by rw[Aj _ _ _ _ _ _ d];rfl);have F:v.cell? ⟨w1.heap.size,1,none⟩=some (#[β y.l,σ y.ba y.bn y.bc,σ y.ia y.m y.ic][1]):=(by rw[Aj _ _ _ _ _ _ d];rfl);have D:v.cell? ⟨w1.heap.size,2,none⟩=some (#[β y.l,σ y.ba y.bn y.bc,σ y.ia y.m y.ic][2]):=(by rw[Aj _ _ _ _ _ _ d];rfl);have g:=Aa RV;clear RV d;go_wp2_with fail;have s:=put3 g.out.row (β y.l) (σ y.ba y.bn y.bc) (σ y.ia y.m y.ic);refine Aq (E4 results133 _ _ w.heap.size _ _ _ rfl s) rfl ?_;refine⟨Ci g.out.bel (Ab _) _ _ _,y,rfl,BD (λb(j:w.heap.size+1<=b) z=>⟨Dk (by omega) _ _ _,by omega⟩) t y i.out⟩
theorem Ir(K:Nat->Prop)(x:RV)(r:PR)(w:World)(h:RefAt K w x r):
 Calls prog 91 #[.agg x.cells.toArray] w (IPost w (refItemP r)):=by
 have HRI:=Aa (Wm w x h.len);have HH:=Aa h;have HLX:=Aa h.len;obtain⟨res,hres⟩:∃res,refItemP r=res:=⟨_,rfl⟩;rw[hres];unfold refItemP at hres;rw[<-h.1]at hres;have HRES:=Aa hres;clear h hres;go_enter func91,ntmps91;go_upto_region 1 with fail;refine gen_w (p:=λv=>Code.wp _ _ _ _ v) (q:=λv=>Ri w v x) HRI.out ?_;clear HRI;intro v R0;have c0:=R0.bx.c0;have c33:=R0.bx.c33;have HR0:=Aa R0;clear R0;by_cases h1:x.k=1
 ·have hr:=HRES.out;rw[if_pos h1]at hr;have HCD:=Aa (K4 x.a x.n x.c r.i v (HH.out.2.2.2.2.1.at HR0.out.bel) HH.out.2.2.2.2.2.1);have HR:=Aa hr;clear hr HRES;go_wp2_with fail;refine HCD.out.mono ?_;intro e w1 hp;obtain⟨hb1,hp⟩:=hp;have HR1:=Aa (HR0.out.go hb1);have HS0:=Aa HR0.out.sz;have hr:=HR.out;cases hq:decP r.i with
  |bad er=>
   rw[hq]at hp hr;have hr:t0=res:=hr;subst hr;obtain⟨rfl,her⟩:=hp;clear hb1 hq her;go_upto_region 3 with fail;refine gen_w (p:=λv=>Code.wp _ _ _ _ v) (q:=λv=>Ri w v x/\B1 w1.heap.size v ⟨false,none,0,0,none,0,0⟩) ⟨HR1.out.go (below_new w1 _),E9 w1 ⟨false,none,0,0,none,0,0⟩⟩ ?_;rintro v2⟨R2,B2⟩;have x0:=R2.x0;have x1:=R2.x1;have x2:=R2.x2;have xf:=R2.xf;have d0:=B2.c0;have d1:=B2.c1;have d2:=B2.c2;have HR2:=Aa R2;clear R2 B2 c0 c33;go_wp2_with fail;have hr:=put3 HR2.out.row (.bool false) (.slice none 0 0) (.slice none 0 0);refine bodyPost_ret (results_cell_row results91 _ _ (w.heap.size+1) 108 _ (0,0) _ rfl hr underlying108 rfl (by kernel_rfl)) rfl ?_;exact EP (y:=⟨false,none,0,0,none,0,0⟩) HR2.out (II _ _)
  |ok t=>
   rw[hq]at hp hr;have hr:t=res:=hr;subst hr;obtain⟨y,rfl,hy⟩:=hp;have HY:=Aa (show LiesP (λb=>w.heap.size+2<=b) w1 t y from BD (λb hb hlt=>⟨rfl,by have:=HS0.out;omega⟩) _ _ hy);clear hb1 hq hy;go_upto_region 3 with fail;refine gen_w (p:=λv=>Code.wp _ _ _ _ v) (q:=λv=>Ri w v x/\B1 w1.heap.size v y/\LiesP (λb=>w.heap.size+2<=b) v t y) ⟨HR1.out.go (below_new w1 _),E9 w1 _,BD (λb hb hlt=>⟨heap_alloc_old _ _ hlt,hb⟩) _ _ HY.out⟩ ?_;rintro v2⟨R2,B2,L2⟩;have x0:=R2.x0;have x1:=R2.x1;have x2:=R2.x2;have xf:=R2.xf;have d0:=B2.c0;have d1:=B2.c1;have d2:=B2.c2;have HR2:=Aa R2;have HL2:=Aa L2;clear R2 B2 L2 c0 c33;go_wp2_with fail;have hr:=put3 HR2.out.row (.bool y.l) (.slice y.ba y.bn y.bc) (.slice y.ia y.m y.ic);refine bodyPost_ret (results_cell_row results91 _ _ (w.heap.size+1) 108 _ (0,0) _ rfl hr underlying108 rfl (by kernel_rfl)) rfl ?_;exact EP HR2.out HL2.out
 ·by_cases h2:x.k=2
  ·have hr:=HRES.out;rw[if_neg h1,if_pos h2]at hr;subst hr;have e1:(x.k==1)=false:=(by simp[h1]);have HS0:=Aa HR0.out.sz;clear c33;go_wp2_with fail;clear c0 e1
   go_loopw [5,6] (λs5 s6 u=>∃j:Nat,j<=32/\s6= .int .i64 j/\OwnB u v.heap.size s5 (r.d.take j)/\Below v.heap.size v u) (λ_ s6 _=>32-(intOf s6).toNat)
   case atStart=>exact⟨0,by omega,rfl,Ni.ownB_nil _ _,Below.refl _ _⟩
   case round=>
    obtain⟨j,hj,rfl,hown,hb⟩:=hrel;have HO:=Aa hown;have HBW:=Aa hb;have HRR:=Aa (HR0.out.go hb);clear hown hb;by_cases hlt:j<32
    ·have hji:(j:Int)<32:=(by omega);have hjd:j<r.d.length:=(by rw[HH.out.2.2.2.1];exact hlt);have hcell:wr.cell? ⟨w.heap.size,1+j,none⟩=some (.int .u8 (r.d.getD j 0)):=by
      have hd:=HRR.out.bx.digest;rw[HH.out.2.1]at hd;exact hd j _ (by rw[List.getElem?_map,List.getD,List.getElem?_eq_getElem hjd];rfl)
     have HN:=Aa (Ni.take_snoc hjd);have HTL:=Aa (show(r.d.take j).length=j from by rw[List.length_take];omega);generalize r.d.getD j 0=z at hcell HN;have HO2:Hid (∀o:Obj,OwnB (wr.alloc o) v.heap.size u5 (r.d.take j)):=Aa λo=>OwnB.alloc HO.out o;have HSZ:=Aa HBW.out.size;clear HO hjd
     go_wp2_with (first
      |(at_builtin;refine DA rfl (.tmp 24) (.tmp 29) rfl v.heap.size _ (r.d.take j) rfl (HO2.out _) (some ⟨wr.heap.size,0,none⟩) 1 1 [z] rfl (Ni.in0_one wr _) (λh=>by cases h) rfl (by rw[HTL.out];omega) (by have:=HSZ.out;simp;omega) ?_;intro v1 w1 o1 hb1;rw[<-HN.out]at o1;have HO3:=Aa o1;have HB3:=Aa ((HBW.out.alloc HSZ.out _).trans hb1);clear o1 hb1))
     go_roundw
     case rel=>exact⟨j+1,by omega,by simp,HO3.out,HB3.out⟩
     case measure=>simp[intOf];omega
    ·have hji:¬(j:Int)<32:=(by omega);have hbt:r.d.take j=r.d:=List.take_of_length_le (by rw[HH.out.2.2.2.1];omega);rw[hbt]at HO;obtain⟨g,cap,rfl,hg1,hg2,hg3,hg4,hg5⟩:=HO.out.slice (by rw[HH.out.2.2.2.1];omega);have hag:=(HO.out.ag HH.out.2.2.1);obtain⟨aa,cc,hve,hag⟩:=hag;cases hve;have hfz:∀o,wr.frozen? ⟨g,o,none⟩=false:=by
      rcases HO.out.2 with⟨hx,_⟩|⟨g',cap',cur,hx,_,hh,_⟩
      ·cases hx
      ·cases hx;exact λo=>frozen_of_row _ _ _ _ _ hh
     have hld:=HH.out.2.2.2.1;rw[hld]at hag⊢
     have HLY:=Aa (show LiesP (λb=>w.heap.size+2<=b) wr (.mk false r.d []) ⟨false,some ⟨g,0,none⟩,32,cap,none,0,0⟩from
      liesP_eq.2 ⟨⟨rfl,hag,rfl,Nat.le_refl _,Nat.zero_le _,⟨by show 32<=_;omega,Nat.zero_le _⟩,λg' off e _=>by cases e;exact⟨by have:=HS0.out;omega,hfz⟩⟩,Dp⟩)
     have x0:=HRR.out.x0;have x1:=HRR.out.x1;have x2:=HRR.out.x2;have xf:=HRR.out.xf;clear hag hfz hld hbt hg1 hg2 hg3 hg4 hg5;go_wp2_with fail;have hr:=put3 HRR.out.row (.bool false) (.slice (some ⟨g,0,none⟩) 32 cap) (.slice none 0 0);refine bodyPost_ret (results_cell_row results91 _ _ (w.heap.size+1) 108 _ (0,0) _ rfl hr underlying108 rfl (by kernel_rfl)) rfl ?_;exact EP (y:=⟨false,some ⟨g,0,none⟩,32,cap,none,0,0⟩) HRR.out HLY.out
  ·have hr:=HRES.out;rw[if_neg h1,if_neg h2]at hr;subst hr;have e1:(x.k==1)=false:=(by simp[h1]);have e2:(x.k==2)=false:=(by simp[h2]);have x0:=HR0.out.x0;have x1:=HR0.out.x1;have x2:=HR0.out.x2;have xf:=HR0.out.xf;go_wp2_with fail;have hr:=put3 HR0.out.row (.bool false) (.slice none 0 0) (.slice none 0 0);refine bodyPost_ret (results_cell_row results91 _ _ (w.heap.size+1) 108 _ (0,0) _ rfl hr underlying108 rfl (by kernel_rfl)) rfl ?_;exact EP (y:=⟨false,none,0,0,none,0,0⟩) HR0.out (II _ _)
def WalkSaid(t:T):Prop:=∀(x:V)(w:Γ)(d ww:Nat),Lies w t x->d<=8->ww<=16777215->
 Calls prog 135 #[γ #[β x.l,σ x.ba x.bn x.bc,σ x.ia x.m x.ic],ι d,ι ww] w λe w'=>e=ω (θ #[ι ((wk t d ww).1:Nat),ι ((wk t d ww).2:Nat)])/\Λ w w'
set_option maxRecDepth 20000 in
theorem Ul(l:Bool)(bs:τ)(its:List T)(ih:∀t∈its,WalkSaid t):WalkSaid (.mk l bs its):=by
 intro x w d Y hx hd hw;obtain⟨xl,az,J,a9,a0,⟨a8,a5⟩,a1⟩:=lies_eq.1 hx;obtain⟨bb,D⟩:∃r,wk (.mk l bs its) d Y=r:=⟨_,rfl⟩;rw[D];rw[IX]at D;have ae:=Aa (E9 w x);have k:=Aa (below_new w (.cells #[β x.l,σ x.ba x.bn x.bc,σ x.ia x.m x.ic] 108));have HX:=Aa (Cl k.out _ x hx);have S:=Aa J;have ar:=Aa ih;have I:=az.l;obtain⟨o,aq,E,av,af,m,ap⟩:=x;simp only at xl I J a8 a5 ae k HX S;subst xl;clear hx az a1 ih a9 a0;by_cases O:o=true/\8<=d
 ·obtain⟨rfl,h8⟩:=O;rw[Ai (by simpa using h8)]at D;subst D;have ay:(d:Int)>=8:=by omega
  clear I J;go_enter func135,ntmps135;go_wp2_with fail;go_ret2;exact⟨rfl,k.out⟩
 rw[Ae (λh=>O (by simpa using h))]at D;by_cases F:wrongForm o bs its=true
 ·rw[Ai F]at D;subst D;cases o with
  |true=>
   have ac:(E:Int)>0:=(by unfold wrongForm at F;simp at F;omega);have ay:¬(d:Int)>=8:=(by have:¬8<=d:=λh=>O ⟨rfl,h⟩;omega);clear I J F O;go_enter func135,ntmps135;go_wp2_with fail;go_ret2;exact⟨rfl,k.out⟩
  |false=>
   have ac:(m:Int)>0:=(by unfold wrongForm at F;simp at F;omega);clear I J F O;go_enter func135,ntmps135;go_wp2_with fail;go_ret2;exact⟨rfl,k.out⟩
 rw[Ae F]at D;have n:=Aa D;clear D;have ak:=EM (by simpa using F);have hz:(o=true->E=0)/\(o=false->m=0):=by
  cases o with
  |true=>
   have e:bs=[]:=(by simpa using ak);rw[e]at I;exact⟨λ_=>I.symm,λh=>Bool.noConfusion h⟩
  |false=>
   have e:its=[]:=(by simpa using ak);rw[e]at J;exact⟨λh=>Bool.noConfusion h,λ_=>J⟩
 have aw:wt o bs d=if o&&decide (d=0)then 0 else max E 1:=by rw[<-I];unfold wt;by_cases f:d=0<;>simp[f]
 have ax:o=true->¬8<=d:=λh h8=>O ⟨h,h8⟩;rw[aw]at n;obtain⟨b,ad⟩:∃b,Y+(if o&&decide (d=0)then 0 else max E 1)=b:=⟨_,rfl⟩;rw[ad]at n;have ba:b<=16777215+140737488351232:=by rw[<-ad];split<;>omega
 have HH:=Aa ad;have aj:=Aa ax;obtain⟨W,hW⟩:∃W,w.alloc (.cells #[β o,σ aq E av,σ af m ap] 108)=W:=⟨_,rfl⟩;have P:=Aa hW;have ah:Hid (∀v,Λ W v->B1 w.heap.size v ⟨o,aq,E,av,af,m,ap⟩):=Aa λv hb=>by rw[hW]at ae;exact ae.out.go hb
 rw[hW]at ae k HX;clear I J F O ak aw ax ad hW;cases o with
 |false=>
  have ao:=hz.2 rfl;subst ao;have K:=HH.out;rw[Ae (by simp)]at K;clear hz;by_cases X:1<E
  ·have a4:(E:Int)>1:=(by omega);have ai:(Y:Int)+E=b:=(by omega);clear K;by_cases C:16777215<b
   ·have V:(b:Int)>16777215:=(by omega);have a:=n.out;rw[Ai C]at a;subst a;go_enter func135,ntmps135;go_wp2_with fail;go_ret2;exact⟨rfl,by rw[P.out];exact k.out⟩
   have V:¬(b:Int)>16777215:=(by omega);have a:=n.out;rw[Ae C]at a;have G:=Aa a;clear a n;go_enter func135,ntmps135;go_wp2_with fail;rw[P.out]
   go_loopw [2,8] (λp q v=>∃(u cur:Nat),u<=0/\q=ι u/\p=ι cur/\wks (its.take u) (d+1) b=(cur,0)/\cur<=16777215/\Λ W v) (λ_ q _=>0-(intOf q).toNat)
   case atStart=>exact⟨0,b,by omega,rfl,rfl,by rw[BM,Er],by omega,Ac _ _⟩
   case round=>
    obtain⟨u,cur,hu,rfl,rfl,s,Q,j⟩:=hrel;obtain⟨c0,c1,c2⟩:=ah.out _ j;simp only at c0 c1 c2;have c:=Aa j;have z:=Aa s;clear j s;have ab:¬(u:Int)<0:=(by omega);have a:=G.out;rw[<-A9 (l:=its) (i:=u) (by rw[<-S.out];omega),z.out]at a;subst a;go_wp2_with fail;go_ret2;exact⟨rfl,below_go k.out c.out⟩
  ·have a4:¬(E:Int)>1:=(by omega);have ai:(Y:Int)+1=b:=(by omega);clear K;by_cases C:16777215<b
   ·have V:(b:Int)>16777215:=(by omega);have a:=n.out;rw[Ai C]at a;subst a;go_enter func135,ntmps135;go_wp2_with fail;go_ret2;exact⟨rfl,by rw[P.out];exact k.out⟩
   have V:¬(b:Int)>16777215:=(by omega);have a:=n.out;rw[Ae C]at a;have G:=Aa a;clear a n;go_enter func135,ntmps135;go_wp2_with fail;rw[P.out]
   go_loopw [2,8] (λp q v=>∃(u cur:Nat),u<=0/\q=ι u/\p=ι cur/\wks (its.take u) (d+1) b=(cur,0)/\cur<=16777215/\Λ W v) (λ_ q _=>0-(intOf q).toNat)
   case atStart=>exact⟨0,b,by omega,rfl,rfl,by rw[BM,Er],by omega,Ac _ _⟩
   case round=>
    obtain⟨u,cur,hu,rfl,rfl,s,Q,j⟩:=hrel;obtain⟨c0,c1,c2⟩:=ah.out _ j;simp only at c0 c1 c2;have c:=Aa j;have z:=Aa s;clear j s;have ab:¬(u:Int)<0:=(by omega);have a:=G.out;rw[<-A9 (l:=its) (i:=u) (by rw[<-S.out];omega),z.out]at a;subst a;go_wp2_with fail;go_ret2;exact⟨rfl,below_go k.out c.out⟩
 |true=>
  have ao:=hz.1 rfl;subst ao;have K:=HH.out;have ay:¬(d:Int)>=8:=by have:=aj.out rfl;omega
  clear hz;by_cases al:d=0
  ·rw[Ai (by simp[al])]at K;have ai:(Y:Int)=b:=(by omega);have a6:¬(d:Int)>0:=(by omega);clear K al;have C:¬16777215<b:=(by omega);have V:¬(b:Int)>16777215:=(by omega);have a:=n.out;rw[Ae C]at a;have G:=Aa a;clear a n;go_enter func135,ntmps135;go_wp2_with fail;rw[P.out]
   go_loopw [2,8] (λp q v=>∃(u cur:Nat),u<=m/\q=ι u/\p=ι cur/\wks (its.take u) (d+1) b=(cur,0)/\cur<=16777215/\Λ W v) (λ_ q _=>m-(intOf q).toNat)
   case atStart=>exact⟨0,b,by omega,rfl,rfl,by rw[BM,Er],by omega,Ac _ _⟩
   case round=>
    obtain⟨u,cur,hu,rfl,rfl,s,Q,j⟩:=hrel;obtain⟨c0,c1,c2⟩:=ah.out _ j;simp only at c0 c1 c2;have c:=Aa j;have z:=Aa s;clear j s;by_cases a7:u<m
    case pos=>
     have ab:(u:Int)<m:=(by omega);obtain⟨t,H⟩:∃t,its[u]?=some t:=⟨its[u]'(by have:=S.out;omega),Ad _⟩;obtain⟨g,off,y,A⟩:=Eb (lies_eq.1 HX.out).2.2.2.2.2.2 u t H;rw[A6]at A;have ha:af=some ⟨g,off,none⟩:=A.ha;subst ha;have y0:=AS c.out A.c0;have y1:=AS c.out A.c1;have y2:=AS c.out A.c2;have a2:=aj.out (by simp);have N:=ar.out t (AL H) y wr (d+1) cur (Cl c.out t y A.li) (by omega) Q;rw[show((d+1:Nat):Int)=(d:Int)+1 from by omega]at N;have HC:=Aa N;have HT:=Aa H;have M:=Lj (t:=t) (d:=d+1) (w:=cur) (by omega) Q;clear N H A;go_wp2_with fail;refine HC.out.mono ?_;rintro e w1⟨rfl,X⟩;have aa:=Aa (below_go c.out X);clear X HC;by_cases f:(wk t (d+1) cur).2=0
     ·have ac:=M f;have L:=Lh HT.out z.out f;rw[f];obtain⟨c3,B⟩:∃c3,(wk t (d+1) cur).1=c3:=⟨_,rfl⟩;rw[B]at ac L⊢;rw[show((0:Nat):Int)=0 from rfl];have am:=Aa L;clear M L f B;go_wp2_with fail;exact⟨⟨u+1,c3,by omega,by simp,rfl,am.out,by omega,aa.out⟩,by simp[intOf];omega⟩
     ·have Z:=Li HT.out z.out f;rw[G.out]at Z;subst Z;obtain⟨c3,B⟩:∃c3,(wk t (d+1) cur).1=c3:=⟨_,rfl⟩;obtain⟨U,R⟩:∃U,(wk t (d+1) cur).2=U:=⟨_,rfl⟩;rw[R]at f;rw[B,R];have a3:((U:Int) !=0)=true:=(by rw[BU];omega);clear M f;go_wp2_with fail;go_ret2;exact⟨by rw[B,R];rfl,below_go k.out aa.out⟩
    have ab:¬(u:Int)<m:=(by omega);have a:=G.out;rw[<-A9 (l:=its) (i:=u) (by rw[<-S.out];omega),z.out]at a;subst a;go_wp2_with fail;go_ret2;exact⟨rfl,below_go k.out c.out⟩
  ·have a6:(d:Int)>0:=(by omega);rw[Ae (by simp[al])]at K;have ai:(Y:Int)+1=b:=(by omega);clear K;by_cases C:16777215<b
   ·have V:(b:Int)>16777215:=(by omega);have a:=n.out;rw[Ai C]at a;subst a;go_enter func135,ntmps135;go_wp2_with fail;go_ret2;exact⟨rfl,by rw[P.out];exact k.out⟩
   have V:¬(b:Int)>16777215:=(by omega);have a:=n.out;rw[Ae C]at a;have G:=Aa a;clear a n;go_enter func135,ntmps135;go_wp2_with fail;rw[P.out]
   go_loopw [2,8] (λp q v=>∃(u cur:Nat),u<=m/\q=ι u/\p=ι cur/\wks (its.take u) (d+1) b=(cur,0)/\cur<=16777215/\Λ W v) (λ_ q _=>m-(intOf q).toNat)
   case atStart=>exact⟨0,b,by omega,rfl,rfl,by rw[BM,Er],by omega,Ac _ _⟩
   case round=>
    obtain⟨u,cur,hu,rfl,rfl,s,Q,j⟩:=hrel;obtain⟨c0,c1,c2⟩:=ah.out _ j;simp only at c0 c1 c2;have c:=Aa j;have z:=Aa s;clear j s;by_cases a7:u<m
    case pos=>
     have ab:(u:Int)<m:=(by omega);obtain⟨t,H⟩:∃t,its[u]?=some t:=⟨its[u]'(by have:=S.out;omega),Ad _⟩;obtain⟨g,off,y,A⟩:=Eb (lies_eq.1 HX.out).2.2.2.2.2.2 u t H;rw[A6]at A;have ha:af=some ⟨g,off,none⟩:=A.ha;subst ha;have y0:=AS c.out A.c0;have y1:=AS c.out A.c1;have y2:=AS c.out A.c2;have a2:=aj.out (by simp);have N:=ar.out t (AL H) y wr (d+1) cur (Cl c.out t y A.li) (by omega) Q;rw[show((d+1:Nat):Int)=(d:Int)+1 from by omega]at N;have HC:=Aa N;have HT:=Aa H;have M:=Lj (t:=t) (d:=d+1) (w:=cur) (by omega) Q;clear N H A;go_wp2_with fail;refine HC.out.mono ?_;rintro e w1⟨rfl,X⟩;have aa:=Aa (below_go c.out X);clear X HC;by_cases f:(wk t (d+1) cur).2=0
     ·have ac:=M f;have L:=Lh HT.out z.out f;rw[f];obtain⟨c3,B⟩:∃c3,(wk t (d+1) cur).1=c3:=⟨_,rfl⟩;rw[B]at ac L⊢;rw[show((0:Nat):Int)=0 from rfl];have am:=Aa L;clear M L f B;go_wp2_with fail;exact⟨⟨u+1,c3,by omega,by simp,rfl,am.out,by omega,aa.out⟩,by simp[intOf];omega⟩
     ·have Z:=Li HT.out z.out f;rw[G.out]at Z;subst Z;obtain⟨c3,B⟩:∃c3,(wk t (d+1) cur).1=c3:=⟨_,rfl⟩;obtain⟨U,R⟩:∃U,(wk t (d+1) cur).2=U:=⟨_,rfl⟩;rw[R]at f;rw[B,R];have a3:((U:Int) !=0)=true:=(by rw[BU];omega);clear M f;go_wp2_with fail;go_ret2;exact⟨by rw[B,R];rfl,below_go k.out aa.out⟩
    have ab:¬(u:Int)<m:=(by omega);have a:=G.out;rw[<-A9 (l:=its) (i:=u) (by rw[<-S.out];omega),z.out]at a;subst a;go_wp2_with fail;go_ret2;exact⟨rfl,below_go k.out c.out⟩
theorem walk_any:∀t,WalkSaid t:=T.ind Ul
theorem FF(base n:Nat)(k:base<=192)(f:n<16777216)(w:Γ):
 Calls prog 160 #[ι base,ι n] w λe w'=>e=ω (σ (some ⟨w.heap.size,0,none⟩) (hd base n).length (hd base n).length)/\Row w.heap.size w' (hd base n)/\Λ w w':=by
 by_cases a:n<=55
 ·have e:hd base n=[((base+n:Nat):Int)]:=by unfold hd;rw[Ai a]
  rw[e];have d:(n:Int)<=55:=by omega
  clear e;go_enter func160,ntmps160;go_wp2_with fail;go_ret;exact⟨rfl,by unfold Row;rw[Ak];simp,(Ac _ _).alloc (Ab _) _⟩
 have i:¬(n:Int)<=55:=by omega
 by_cases b:n<256
 ·have e:hd base n=[((base+56:Nat):Int),(n:Int)]:=by
   unfold hd;rw[Ae a,Vu (by omega) b,NI (by omega) b]
  rw[e];have d:(n:Int)<256:=by omega
  clear e;go_enter func160,ntmps160;go_wp2_with fail;go_ret;exact⟨rfl,by unfold Row;rw[Ak];simp,(Ac _ _).alloc (Ab _) _⟩
 have j:¬(n:Int)<256:=by omega
 by_cases c:n<65536
 ·have e:hd base n=[((base+57:Nat):Int),((n/256:Nat):Int),((n%256:Nat):Int)]:=by
   unfold hd;rw[Ae a,Vv (by omega) c,NJ (by omega) c]
  rw[e];have d:(n:Int)<65536:=by omega
  have g:(n:Int)/256<256:=by omega
  clear e;go_enter func160,ntmps160;go_wp2_with fail;go_ret;exact⟨rfl,by unfold Row;rw[Ak];simp,(Ac _ _).alloc (Ab _) _⟩
 have h:¬(n:Int)<65536:=by omega
 have e:hd base n=[((base+58:Nat):Int),((n/65536:Nat):Int),((n/256%256:Nat):Int),((n%256:Nat):Int)]:=by
  unfold hd;rw[Ae a,Vw (by omega) f,IW (by omega) f]
 rw[e];have g:(n:Int)/65536<256:=by omega
 clear e;go_enter func160,ntmps160;go_wp2_with fail;go_ret;exact⟨rfl,by unfold Row;rw[Ak];simp,(Ac _ _).alloc (Ab _) _⟩
theorem Um(w:Γ)(base:Nat):OwnB w base (ε) []:=⟨rfl, .inl ⟨rfl,rfl⟩⟩
theorem Zc{bs:τ}(h:Row g w bs)(base:Nat)(a:base<=g)(b:bs.length<=1000):OwnB w base (σ (ζ g 0) bs.length bs.length) bs:=by
 refine⟨by rw[AQ,BE], .inr ⟨g,bs.length,_,rfl,a,h,Ab _,by unfold maxLen;omega,by simp,by rw[BE];exact A9 (by simp)⟩⟩
theorem Oo(h:n<16777216):(hd base n).length<=4:=by
 rw[hd_len];have:=Gz h;split<;>omega
theorem Xbw(d:base<=192)(b:n<16777216):∀z∈hd base n,0<=z/\z<256:=by
 have c:=Gz b;unfold hd;split
 ·intro z a;have e:z=((base+n:Nat):Int):=by simpa using a
  omega
 ·intro z a;rcases Ay.1 a with e|a
  ·omega
  ·exact MA n z a
def Nw(base:Nat)(a:Ω):Prop:=∀g off,a=some ⟨g,off,none⟩->base<=g
theorem OwnB.agn{v:Δ}{bs:τ}(h:OwnB w base v bs)(d:∀x∈bs,0<=x/\x<256):∃a cap,v=σ a bs.length cap/\Ag w a bs.length cap bs/\Nw base a:=by
 obtain⟨a,cap,e,b⟩:=OwnB.ag h d;refine⟨a,cap,e,b,λg off c=>?_⟩;subst c;rw[e]at h;exact OwnB.lt h g rfl
theorem Nw.mono{b c:Nat}{a:Ω}(h:Nw b a)(d:c<=b):Nw c a:=λg off e=>Au d (h g off e)
def BytesSaid(t:T):Prop:=∀(x:V)(w:Γ),Lies w t x->(bodyOf t).length<=16777215->
 Calls prog 137 #[γ #[β x.l,σ x.ba x.bn x.bc,σ x.ia x.m x.ic]] w λe w'=>(∃a n c,e=ω (σ a n c)/\Ag w' a n c (enc t)/\(x.l=true->Nw w.heap.size a))/\Λ w w'
structure Gb(W:Γ)(B:Nat)(bs:τ)(its:List T)(j:Nat)(q:Δ)(v:Γ)(cur:τ):Prop where
 own:OwnB v B q cur
 eq:cur=bs++encs (its.take j)
 bel:Below B W v
 by8:∀x∈cur,0<=x/\x<256
theorem Rd(l:Bool)(bs:τ)(its:List T)(ih:∀t∈its,BytesSaid t)(x:V)(w:Γ)(E:Lies w (.mk l bs its) x)(N:(bs++encs its).length<=16777215):
 Calls prog 161 #[γ #[β x.l,σ x.ba x.bn x.bc,σ x.ia x.m x.ic]] w λe w'=>(∃a n c,e=ω (σ a n c)/\Ag w' a n c (bs++encs its))/\Λ w w':=by
 obtain⟨xl,D,xm,ar,ac,⟨ap,aj⟩,ad⟩:=lies_eq.1 E;have p:=Aa (below_new w (.cells #[β x.l,σ x.ba x.bn x.bc,σ x.ia x.m x.ic] 108));have s:=Aa (E9 w x);have J:=Aa (Cl p.out _ x E);have d:=Aa (D.at p.out);have C:=Aa xm;have ai:=Aa ih;have aw:=Aa N;have ae:=D.l;rw[Af]at N;obtain⟨W,u⟩:∃W,w.alloc (.cells #[β x.l,σ x.ba x.bn x.bc,σ x.ia x.m x.ic] 108)=W:=⟨_,rfl⟩;have ay:W.heap.size=w.heap.size+1:=by rw[<-u];simp
 have S:=Aa u;rw[u]at p s J d;clear E D ad xm xl ih ar ac u;obtain⟨xl,af,ab,am,ak,k,ax⟩:=x;simp only at ap aj s J d C ae S;obtain⟨c0,c1,c2⟩:=s.out;simp only at c0 c1 c2;go_enter func161,ntmps161;go_upto_region 2 with fail;rw[S.out];go_wp2_with (first|(at_builtin;refine DA rfl (.tmp 5) (.tmp 7) rfl W.heap.size _ [] rfl (Um W _) af ab am bs rfl d.out.i d.out.nil d.out.l (by simp;omega) (Ab _) ?_;intro v1 w1 H f;rw[AH]at H;have r:=Aa H;have h:=Aa f;clear H f))
 go_loopw [3,4] (λq i v=>∃(j:Nat)(cur:τ),j<=k/\i=ι j/\Gb W W.heap.size bs its j q v cur) (λ_ i _=>k-(intOf i).toNat)
 case atStart=>exact⟨0,bs,by omega,rfl,⟨r.out,by rw[BM,Ct,A7],h.out,d.out.b⟩⟩
 case round=>
  clear r h;obtain⟨j,cur,hj,rfl,G⟩:=hrel;obtain⟨d0,d1,Z⟩:=s.out.go G.bel;simp only at d0 d1 Z;have b:=Aa G;clear G;by_cases a0:j<k
  ·have ah:(j:Int)<k:=(by omega);obtain⟨t,m⟩:∃t,its[j]?=some t:=⟨its[j]'(by have:=C.out;omega),Ad _⟩;obtain⟨g,off,y,A⟩:=Eb (lies_eq.1 J.out).2.2.2.2.2.2 j t m;rw[A6]at A;have ha:ak=some ⟨g,off,none⟩:=A.ha;subst ha;have y0:=AS b.out.bel A.c0;have y1:=AS b.out.bel A.c1;have y2:=AS b.out.bel A.c2;have z:=AL m;have I:=EN t;have a2:=Fl z;have O:=ai.out t z y wr (Cl b.out.bel t y A.li) (by omega);have av:(cur++enc t).length<=16777215:=by
    rw[b.out.eq,AX];have e1:encs (its.take (j+1))=encs (its.take j)++enc t:=(by rw[DM m,EK,C9,Ct,A7]);have e2:(encs (its.take (j+1)++its.drop (j+1))).length=(encs its).length:=(by rw[Bj]);rw[EK,Af,e1,Af]at e2;rw[Af,Af];omega
   rw[Af]at av;have HC:=Aa O;have HT:=Aa m;clear O m A I a2 z;go_wp2_with fail;refine HC.out.mono ?_;rintro e w1⟨⟨I,n1,ao,rfl,o,-⟩,f⟩;have az:=o.l;have B:=Aa o;have r:=Aa (b.out.own.below f);have R:=b.out.bel.trans (f.mono b.out.bel.size);have h:=Aa R;have K:=Aa (K8 b.out.by8 o.b);clear o f R HC d0 d1 Z c0 c1 c2;go_wp2_with (first|(at_builtin;refine DA rfl (.tmp 16) (.tmp 22) rfl W.heap.size _ cur rfl r.out I n1 ao (enc t) rfl B.out.i B.out.nil B.out.l (by omega) h.out.size ?_;intro v2 w2 F Y;obtain⟨a2,a3,rfl,aa⟩:=OwnB.ag F K.out;have X:=Aa F;have aq:=Aa (h.out.trans Y);clear F Y aa;generalize al:(cur++enc t).length=len2 at X⊢;clear al));refine⟨⟨j+1,cur++enc t,by omega,by simp,⟨X.out,?_,aq.out,K.out⟩⟩,by simp[intOf];omega⟩;rw[b.out.eq,DM HT.out,EK,C9,Ct,A7,AX]
  ·have ah:¬(j:Int)<k:=(by omega);have U:its.take j=its:=A9 (by rw[<-C.out];omega);have P:=b.out.eq;rw[U]at P;subst P;obtain⟨ba,bc,hq,M⟩:=OwnB.ag b.out.own b.out.by8;subst hq;have Q:=Aa M;obtain⟨L,hL⟩:∃L,(bs++encs its).length=L:=⟨_,rfl⟩;rw[hL]at Q⊢;clear M U hL;go_wp2_with fail;go_ret;exact⟨⟨_,_,_,rfl,Q.out⟩,p.out.trans (b.out.bel.mono (by omega))⟩
theorem PF(l:Bool)(bs:τ)(its:List T)(ih:∀t∈its,BytesSaid t):BytesSaid (.mk l bs its):=by
 intro x w hx ad;have ac:(bs++encs its).length<=16777215:=ad;have xl:=(lies_eq.1 hx).1;have Q:=Aa (below_new w (.cells #[β x.l,σ x.ba x.bn x.bc,σ x.ia x.m x.ic] 108));have V:=Aa (E9 w x);have af:=Rd l bs its ih x _ (Cl Q.out _ x hx) ac;have HC:=Aa af;have O:=Ea l bs its;obtain⟨b,aa⟩:∃b,bs++encs its=b:=⟨_,rfl⟩;rw[aa]at HC O ac;obtain⟨E,hE⟩:∃E,enc (.mk l bs its)=E:=⟨_,rfl⟩;rw[hE];rw[hE]at O;have W:=Aa O;obtain⟨R,al,aq,ao,am,xm,ar⟩:=x;simp only at xl HC V Q;subst xl;clear hx af O aa ad ih hE;go_enter func137,ntmps137;go_wp2_with fail;refine HC.out.mono ?_;rintro e w1⟨⟨a1,a,c1,rfl,P⟩,Z⟩;obtain⟨d0,d1,d2⟩:=V.out.go Z;simp only at d0 d1 d2;have A:=Aa (below_go Q.out Z);have C:=P.l;have q:=Aa P;have ab:∀(base:Nat),base=baseOf R->base<=192->∀j,Λ w1 j->Row w1.heap.size j (hd base a)->OwnB j w1.heap.size (σ (some ⟨w1.heap.size,0,none⟩) (hd base a).length (hd base a).length) (hd base a)/\(hd base a).length<=4/\∀z∈hd base a++b,0<=z/\z<256:=by
  intro base _ hb j _ i;have B:=Oo (base:=base) (n:=a) (by omega);exact⟨Zc i _ (Ab _) (by omega),B,K8 (Xbw hb (by omega)) P.b⟩
 have HF:=Aa ab;clear P Z HC ab V Q;have ak:a<16777216:=by omega
 by_cases k:bare R b=true
 ·have X:=k;unfold bare at X;simp only[BZ,Co]at X;obtain⟨b1,b2,b3⟩:=X;have bx:R=false:=by simpa using b1
  subst bx;have U:a=1:=by omega
  subst U;have D:Hid (E=b):=Aa (by rw[W.out,Ai k]);obtain⟨g,off,rfl,aj,Y,M⟩:=ag_head q.out (by omega);unfold maxLen at Y;have S:=M 0 (by omega);rw[Cz]at S;have N:b.getD 0 0=b.headD 0:=by cases b<;>rfl
  have u:=(q.out.b (b.getD 0 0) (by rw[List.getD,Ad (by omega)];exact Bh _)).1;rw[<-N]at b3;generalize b.getD 0 0=z at*;clear M k b1 b2 N C;go_wp2_with fail;go_ret;exact⟨⟨_,_,_,rfl,by rw[D.out];exact q.out,by first|exact(λh=>by cases h)|simp⟩,A.out⟩
 cases R with
 |true=>
  have D:Hid (E=hd 192 a++b):=Aa (by rw[W.out,Ae k,C];rfl);clear k C;go_wp2_with fail;refine(FF 192 a (by decide) (by omega) _).mono ?_;rintro e j⟨rfl,i,c⟩;obtain⟨y,B,m⟩:=HF.out 192 rfl (by decide) j c i;have r:=Aa y;have F:=Aa m;have d:=Aa (q.out.at c);have L:=Aa (below_go A.out c);have u:=A.out.size;have I:=c.size;obtain⟨K,f⟩:∃K,(hd 192 a).length=K:=⟨_,rfl⟩;rw[f]at r B⊢;have G:=Aa f;clear y m i c f;go_wp2_with (first|(at_builtin;refine DA rfl (.tmp 29) (.tmp 30) rfl w1.heap.size _ (hd 192 a) rfl r.out _ a c1 b rfl d.out.i d.out.nil d.out.l (by rw[G.out];omega) I ?_;intro v3 w3 v s;obtain⟨a3,c3,rfl,o,ae⟩:=OwnB.agn v F.out;have ah:=Aa (ae.mono u);have p:=Aa o;have H:=Aa (L.out.trans (s.mono u));clear v o s ae;generalize J:(hd 192 a++b).length=len3 at p⊢;clear J));go_ret;exact⟨⟨_,_,_,rfl,by rw[D.out];exact p.out,by first|exact ah.out|exact λ_=>ah.out⟩,H.out⟩
 |false=>
  have D:Hid (E=hd 128 a++b):=Aa (by rw[W.out,Ae k,C];rfl);by_cases U:a=1
  ·have ai:((a:Int)==1)=true:=(by rw[Ee];omega);have av:0<a:=(by omega);obtain⟨g,off,rfl,aj,Y,M⟩:=ag_head q.out (by omega);unfold maxLen at Y;have S:=M 0 (by omega);rw[Cz]at S;have N:b.getD 0 0=b.headD 0:=(by cases b<;>rfl);have u:=(q.out.b (b.getD 0 0) (by rw[List.getD,Ad (by omega)];exact Bh _)).2;have ap:¬b.getD 0 0<128:=λh=>k (by unfold bare;rw[<-N,AF h,AF (show b.length=1 by omega)];rfl);generalize b.getD 0 0=z at*;clear M k N C U;go_wp2_with fail;refine(FF 128 a (by decide) (by omega) _).mono ?_;rintro e j⟨rfl,i,c⟩;obtain⟨y,B,m⟩:=HF.out 128 rfl (by decide) j c i;have r:=Aa y;have F:=Aa m;have d:=Aa (q.out.at c);have L:=Aa (below_go A.out c);have u:=A.out.size;have I:=c.size;obtain⟨K,f⟩:∃K,(hd 128 a).length=K:=⟨_,rfl⟩;rw[f]at r B⊢;have G:=Aa f;clear y m i c f;go_wp2_with (first|(at_builtin;refine DA rfl (.tmp 29) (.tmp 30) rfl w1.heap.size _ (hd 128 a) rfl r.out _ a c1 b rfl d.out.i d.out.nil d.out.l (by rw[G.out];omega) I ?_;intro v3 w3 v s;obtain⟨a3,c3,rfl,o⟩:=OwnB.ag v F.out;have p:=Aa o;have H:=Aa (L.out.trans (s.mono u));clear v o s;generalize J:(hd 128 a++b).length=len3 at p⊢;clear J));go_ret;exact⟨⟨_,_,_,rfl,by rw[D.out];exact p.out,by first|exact(λh=>by cases h)|simp⟩,H.out⟩
  ·have ai:((a:Int)==1)=false:=(by rw[Bo];omega);clear k C;go_wp2_with fail;refine(FF 128 a (by decide) (by omega) _).mono ?_;rintro e j⟨rfl,i,c⟩;obtain⟨y,B,m⟩:=HF.out 128 rfl (by decide) j c i;have r:=Aa y;have F:=Aa m;have d:=Aa (q.out.at c);have L:=Aa (below_go A.out c);have u:=A.out.size;have I:=c.size;obtain⟨K,f⟩:∃K,(hd 128 a).length=K:=⟨_,rfl⟩;rw[f]at r B⊢;have G:=Aa f;clear y m i c f;go_wp2_with (first|(at_builtin;refine DA rfl (.tmp 29) (.tmp 30) rfl w1.heap.size _ (hd 128 a) rfl r.out _ a c1 b rfl d.out.i d.out.nil d.out.l (by rw[G.out];omega) I ?_;intro v3 w3 v s;obtain⟨a3,c3,rfl,o⟩:=OwnB.ag v F.out;have p:=Aa o;have H:=Aa (L.out.trans (s.mono u));clear v o s;generalize J:(hd 128 a++b).length=len3 at p⊢;clear J));go_ret;exact⟨⟨_,_,_,rfl,by rw[D.out];exact p.out,by first|exact(λh=>by cases h)|simp⟩,H.out⟩
theorem Re:∀t,BytesSaid t:=T.ind PF
mutual
def rsz:T->Nat
 | .mk l bs its=>if bare l bs then 1 else if 16777215<(if l then 0 else bs.length)+rszs its then(if l then 0 else bs.length)+rszs its else szOf true [] ((if l then 0 else bs.length)+rszs its)
def rszs:List T->Nat
 |[]=>0
 |t::r=>rsz t+rszs r
end
theorem WF(l:Bool)(bs:τ)(its:List T):rsz (.mk l bs its)=if bare l bs then 1 else if 16777215<(if l then 0 else bs.length)+rszs its then(if l then 0 else bs.length)+rszs its else szOf true [] ((if l then 0 else bs.length)+rszs its):=by rw[rsz]
theorem FQ:rszs []=0:=by rw[rszs]
theorem Is(t:T)(r:List T):rszs (t::r)=rsz t+rszs r:=by rw[rszs]
theorem GZ:∀a b:List T,rszs (a++b)=rszs a+rszs b
 |[],b=>by rw[FQ];simp
 |t::r,b=>by rw[BS,Is,Is,GZ r b];omega
theorem Nc{its:List T}{k:Nat}{t:T}(h:its[k]?=some t):rszs (its.take (k+1))=rszs (its.take k)+rsz t:=by
 rw[DM h,GZ,Is,FQ];rfl
def Like(a b:Nat):Prop:=a=b∨(16777215<a/\16777215<b/\a<=b)
theorem It:∀{its:List T},(∀t∈its,Like (rsz t) (sz t))->Like (rszs its) (szs its)
 |[],_=>by rw[FQ,Fu];exact .inl rfl
 |t::r,h=>by
  rw[Is,Gh];have c:=h t (C0 ..);have b:=It λu a=>h u (Az _ a);unfold Like at*;omega
theorem Nd(n:Nat):szOf true [] n=1+n+(if 55<n then nb n else 0):=by unfold szOf bare;simp
theorem PG:∀t,form t=true->Like (rsz t) (sz t):=by
 refine T.ind λl bs its i h=>?_;rw[WF,RN];cases l with
 |false=>
  have k:=Ej h;subst k;rw[FQ,Fu];simp only[BG,Dm,Cz];by_cases a:bare false bs=true
  ·rw[Ai a];unfold szOf;rw[Ai a];unfold bare at a;simp only[BZ,Co]at a;exact .inl a.2.1.symm
  ·rw[Ae a];have e:szOf false bs bs.length=szOf true [] bs.length:=(by rw[Nd];unfold szOf;rw[Ae a]);rw[e];by_cases b:16777215<bs.length
   ·rw[Ai b];have:=KE true [] bs.length;exact .inr ⟨b,by omega,this⟩
   ·rw[Ae b];exact .inl rfl
 |true=>
  obtain⟨a,g⟩:=EL h;subst a;have c:=It λt f=>i t f (CN g t f);rw[Ae (by simp[bare]),Ai rfl,A6,show([]:τ).length+szs its=szs its from by simp];have j:=KE true [] (szs its);unfold Like at*;rcases c with c|⟨d,m,n⟩
  ·rw[c];by_cases b:16777215<szs its
   ·rw[Ai b];exact .inr ⟨b,by omega,j⟩
   ·rw[Ae b];exact .inl rfl
  ·rw[Ai d];exact .inr ⟨d,by omega,by omega⟩
theorem Zd{its:List T}(h:forms its=true):rszs its<=szs its:=by
 have:=It λt a=>PG t (CN h t a);unfold Like at this;omega
theorem Nf{its:List T}(k:Nat):rszs (its.take k)<=rszs its:=by
 have e:=GZ (its.take k) (its.drop k);rw[Bj]at e;omega
theorem Oq:szOf true [] n=n+(hd 0 n).length:=by
 rw[Nd,hd_len];split<;>omega
def SizeSaid(t:T):Prop:=∀(x:V)(w:Γ),Lies w t x->form t=true->rsz t<=1000000000000->
 Calls prog 136 #[γ #[β x.l,σ x.ba x.bn x.bc,σ x.ia x.m x.ic]] w λe w'=>e=ω (ι (rsz t:Nat))/\Λ w w'
theorem Un(l:Bool)(bs:τ)(its:List T)(ih:∀t∈its,SizeSaid t):SizeSaid (.mk l bs its):=by
 intro x w hx I R;obtain⟨xl,ae,E,a3,al,⟨ax,ar⟩,am⟩:=lies_eq.1 hx;have i:=Aa (below_new w (.cells #[β x.l,σ x.ba x.bn x.bc,σ x.ia x.m x.ic] 108));have L:=Aa (E9 w x);have HX:=Aa (Cl i.out _ x hx);have G:=Aa (ae.at i.out);have ad:=Aa E;have aq:=Aa ih;have F:=ae.l;have d:=WF l bs its;obtain⟨s,ab⟩:∃s,rsz (.mk l bs its)=s:=⟨_,rfl⟩;rw[ab];rw[ab]at d R;obtain⟨ak,ap,a,aw,af,C,ao⟩:=x;simp only at xl ax ar L i HX G ad F E;subst xl;obtain⟨W,hW⟩:∃W,w.alloc (.cells #[β ak,σ ap a aw,σ af C ao] 108)=W:=⟨_,rfl⟩;have H:=Aa hW;rw[hW]at i L HX G;clear hx ae am ih a3 al hW ab;cases ak with
 |false=>
  have hi:=Ej I;subst hi;have az:C=0:=E;subst az;simp only[BG,Dm,FQ,Cz]at d;by_cases m:bare false bs=true
  ·rw[Ai m]at d;subst d;unfold bare at m;simp only[BZ,Co]at m;obtain⟨_,b2,b3⟩:=m;have Z:a=1:=(by omega);subst Z;obtain⟨g,off,rfl,a5,ac,O⟩:=ag_head G.out (by omega);unfold maxLen at ac;have X:=O 0 (by omega);rw[Cz,<-H.out]at X;have Q:bs.getD 0 0=bs.headD 0:=(by cases bs<;>rfl);have hz:=(G.out.b (bs.getD 0 0) (by rw[List.getD,Ad (by omega)];exact Bh _)).1;rw[<-Q]at b3;generalize bs.getD 0 0=z at*;clear O Q b2 F I E;go_enter func136,ntmps136;go_wp2_with fail;go_ret;exact⟨rfl,by rw[H.out];exact i.out⟩
  rw[Ae m,F]at d;have r:=Aa d.symm;clear d;by_cases Z:a=1
  ·have a4:((a:Int)==1)=true:=(by rw[Ee];omega);have a9:0<a:=(by omega);obtain⟨g,off,rfl,a5,ac,O⟩:=ag_head G.out (by omega);unfold maxLen at ac;have X:=O 0 (by omega);rw[Cz,<-H.out]at X;have Q:bs.getD 0 0=bs.headD 0:=(by cases bs<;>rfl);have hz:=(G.out.b (bs.getD 0 0) (by rw[List.getD,Ad (by omega)];exact Bh _)).2;have a6:¬bs.getD 0 0<128:=λh=>m (by unfold bare;rw[<-Q,AF h,AF (show bs.length=1 by omega)];rfl);generalize bs.getD 0 0=z at*;clear O Q F I E m Z;go_enter func136,ntmps136;go_wp2_with fail;rw[H.out]
   go_loopw [3,4] (λp q v=>p=ι a/\q=ι 0/\Λ W v) (λ_ _ _=>0)
   case atStart=>exact⟨rfl,rfl,Ac _ _⟩
   case round=>
    obtain⟨rfl,rfl,f⟩:=hrel;obtain⟨d0,P,M⟩:=L.out.go f;simp only at d0 P M;have c:=Aa f;clear f;by_cases o:16777215<a
    ·have J:(a:Int)>16777215:=(by omega);have e:s=a:=(by rw[<-r.out,Ai o]);subst e;go_wp2_with fail;go_ret;exact⟨rfl,below_go i.out c.out⟩
    ·have J:¬(a:Int)>16777215:=(by omega);have e:s=a+(hd 0 a).length:=(by rw[<-r.out,Ae o,Oq]);have N:=Oo (base:=0) (n:=a) (by omega);have b:=FF 0 a (by omega) (by omega) wr;rw[show((0:Nat):Int)=0 from rfl]at b;obtain⟨K,B⟩:∃K,(hd 0 a).length=K:=⟨_,rfl⟩;rw[B]at b e N;subst e;have HC:=Aa b;clear b B;go_wp2_with fail;refine HC.out.mono ?_;rintro e w2⟨rfl,_,j⟩;have D:=Aa (below_go c.out j);clear j;go_wp2_with fail;go_ret;exact⟨by simp,below_go i.out D.out⟩
  ·have a4:((a:Int)==1)=false:=(by rw[Bo];omega);clear F I E m;go_enter func136,ntmps136;go_wp2_with fail;rw[H.out]
   go_loopw [3,4] (λp q v=>p=ι a/\q=ι 0/\Λ W v) (λ_ _ _=>0)
   case atStart=>exact⟨rfl,rfl,Ac _ _⟩
   case round=>
    obtain⟨rfl,rfl,f⟩:=hrel;obtain⟨d0,P,M⟩:=L.out.go f;simp only at d0 P M;have c:=Aa f;clear f;by_cases o:16777215<a
    ·have J:(a:Int)>16777215:=(by omega);have e:s=a:=(by rw[<-r.out,Ai o]);subst e;go_wp2_with fail;go_ret;exact⟨rfl,below_go i.out c.out⟩
    ·have J:¬(a:Int)>16777215:=(by omega);have e:s=a+(hd 0 a).length:=(by rw[<-r.out,Ae o,Oq]);have N:=Oo (base:=0) (n:=a) (by omega);have b:=FF 0 a (by omega) (by omega) wr;rw[show((0:Nat):Int)=0 from rfl]at b;obtain⟨K,B⟩:∃K,(hd 0 a).length=K:=⟨_,rfl⟩;rw[B]at b e N;subst e;have HC:=Aa b;clear b B;go_wp2_with fail;refine HC.out.mono ?_;rintro e w2⟨rfl,_,j⟩;have D:=Aa (below_go c.out j);clear j;go_wp2_with fail;go_ret;exact⟨by simp,below_go i.out D.out⟩
 |true=>
  obtain⟨hb,ai⟩:=EL I;subst hb;simp only[if_true,A6]at d;rw[Ae (by simp[bare])]at d;have r:=Aa d.symm;have a1:=Aa ai;have a0:rszs its<=1000000000000:=by
   rw[d]at R;split at R
   ·exact R
   ·have:=KE true [] (rszs its);omega
  clear d I ai F E;go_enter func136,ntmps136;go_wp2_with fail;rw[H.out]
  go_loopw [3,4] (λp q v=>∃u:Nat,u<=C/\q=ι u/\p=ι (rszs (its.take u):Nat)/\Λ W v) (λ_ q _=>C-(intOf q).toNat)
  case atStart=>exact⟨0,by omega,rfl,by rw[BM,FQ];rfl,Ac _ _⟩
  case round=>
   obtain⟨u,hu,rfl,rfl,f⟩:=hrel;obtain⟨d0,P,M⟩:=L.out.go f;simp only at d0 P M;have c:=Aa f;clear f;by_cases a7:u<C
   ·have av:(u:Int)<C:=(by omega);obtain⟨t,S⟩:∃t,its[u]?=some t:=⟨its[u]'(by have:=ad.out;omega),Ad _⟩;obtain⟨g,off,y,A⟩:=Eb (lies_eq.1 HX.out).2.2.2.2.2.2 u t S;rw[A6]at A;have ha:af=some ⟨g,off,none⟩:=A.ha;subst ha;have y0:=AS c.out A.c0;have y1:=AS c.out A.c1;have y2:=AS c.out A.c2;have V:=AL S;have U:=Nc S;have a2:=Nf (its:=its) (u+1);have b:=aq.out t V y wr (Cl c.out t y A.li) (CN a1.out t V) (by omega);obtain⟨r1,aa⟩:∃r1,rszs (its.take u)=r1:=⟨_,rfl⟩;obtain⟨r2,Y⟩:∃r2,rsz t=r2:=⟨_,rfl⟩;rw[aa,Y]at U;rw[aa];rw[Y]at b;have HC:=Aa b;have ay:=Aa U;have a8:r1+r2<=1000000000000:=(by omega);clear b S A V U a2 aa Y;go_wp2_with fail;refine HC.out.mono ?_;rintro e w1⟨rfl,j⟩;have D:=Aa (below_go c.out j);clear j;go_wp2_with fail;exact⟨⟨u+1,by omega,by simp,by rw[ay.out];simp,D.out⟩,by simp[intOf];omega⟩
   ·have av:¬(u:Int)<C:=(by omega);have ah:its.take u=its:=A9 (by rw[<-ad.out];omega);rw[ah];obtain⟨k,aj⟩:∃k,rszs its=k:=⟨_,rfl⟩;rw[aj]at r a0⊢;clear ah aj;by_cases o:16777215<k
    ·have J:(k:Int)>16777215:=(by omega);have e:s=k:=(by rw[<-r.out,Ai o]);subst e;go_wp2_with fail;go_ret;exact⟨rfl,below_go i.out c.out⟩
    ·have J:¬(k:Int)>16777215:=(by omega);have e:s=k+(hd 0 k).length:=(by rw[<-r.out,Ae o,Oq]);have N:=Oo (base:=0) (n:=k) (by omega);have b:=FF 0 k (by omega) (by omega) wr;rw[show((0:Nat):Int)=0 from rfl]at b;obtain⟨K,B⟩:∃K,(hd 0 k).length=K:=⟨_,rfl⟩;rw[B]at b e N;subst e;have HC:=Aa b;clear b B;go_wp2_with fail;refine HC.out.mono ?_;rintro e w2⟨rfl,_,j⟩;have D:=Aa (below_go c.out j);clear j;go_wp2_with fail;go_ret;exact⟨by simp,below_go i.out D.out⟩
theorem WG:∀t,SizeSaid t:=T.ind Un
end
end Go.Proofs.YtkdlocloepbmcaaGreat
