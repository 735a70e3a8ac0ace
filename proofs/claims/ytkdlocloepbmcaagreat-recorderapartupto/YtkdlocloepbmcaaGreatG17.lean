/- A new row of one reference. -/
import Derived.Great.BuildSlice
import Derived.Great.FillDense
import Derived.Test.YtkdlocloepbmcaaGreatG16
set_option linter.unusedVariables false
set_option linter.unusedSimpArgs false
set_option maxRecDepth 100000
set_option maxHeartbeats 16000000
open Go.Proofs.Tryz Go.RowKit
namespace Go.Proofs.YtkdlocloepbmcaaGreat
section
theorem Mc(w:Γ)(r:RV)(c:r.d.length=32):(Instr.buildSlice 119 1 #[(0,γ r.cells.toArray)]).run prog w= .ok (σ (some ⟨w.heap.size,0,none⟩) 1 1) (w.alloc (.cells r.cells.toArray 118)):=by
 obtain⟨i,d,e,a,f⟩:=QE;refine run_buildSlice w 119 118 1 _ r.cells.toArray i _ υ119 d e (by rw[a];omega) (by rw[a];omega) ?_;rw[a]
 have h:=Great.fill_whole (s:=34) (by omega) [γ r.cells.toArray] ((Array.range (1*34)).map ((γ rz.cells.toArray).cells[·%(γ rz.cells.toArray).cells.size]!)) (λv b=>by
  simp only[Ay,BN,Dn]at b;subst b;show r.cells.toArray.size=34;rw[Ba,RV.len c]) (by simp)
 refine h.trans ?_;simp[Value.cells]
theorem Ka{a:Act}{w:Γ}{x:Operand}{o:Oper}(d:o.op= .buildSlice 119 1 #[(0,x)])(r:RV)(b:r.d.length=32)(c:a.eval x=γ r.cells.toArray):
 (execOp a.eval o).run prog w= .ok (.value (σ (some ⟨w.heap.size,0,none⟩) 1 1)) (w.alloc (.cells r.cells.toArray 118)):=by
 unfold execOp;rw[d];simp only[BT,Bd,BY,c,AO,Mc w r b,A4,AV]
theorem Rg{a:Act}{w w':Γ}{s x:Operand}{o:Oper}(c:o.op= .call {callee:= .builtin .append,args:=#[s,x],argTypes:=#[119,119]})(v u:Δ)(hd:a.eval s=v)(b:a.eval x=u){v':Δ}
 (d:(Builtin.append_ #[119,119] o.type #[v,u]).run prog w= .ok v' w'):(execOp a.eval o).run prog w= .ok (.value v') w':=by
 simp[execOp,c,resolve,invoke,builtin,hd,b,d,Result.andThen]
section
variable {w : World} {ops : Array Oper} {rest : List Oper} {o : Oper} {a : Act} {Q : Exit → Act → World → Prop}
end
end
section
open Ni (unpP)
variable {w v' : World} {base : Nat} {ys : List RV} {rs : List PR} {r : PR} {u : T} {b : List Int}
def OwnR(w:Γ)(base:Nat)(v:Δ)(ys:List RV):Prop:=w.ownsRow base 118 34 v ys.length (flatR ys)
theorem Ot{v:Δ}(h:OwnR w base v ys){g:Nat}(a:v.ownBlock=some g):base<=g/\g<w.heap.size:=by
 rcases h.2 with⟨rfl,_⟩|⟨g',cap,cur,rfl,b,c,_⟩
 ·cases a
 ·cases a;exact⟨b,lt_of_get c⟩
theorem Ng{w':Γ}{v:Δ}(h:OwnR w base v ys)(c:∀g,v.ownBlock=some g->g<w.heap.size->w'.heap[g]?=w.heap[g]?):OwnR w' base v ys:=by
 refine⟨h.1,?_⟩;rcases h.2 with e|⟨g,cap,cur,a,d,b,r⟩
 ·exact .inl e
 ·exact .inr ⟨g,cap,cur,a,d,(c g (by rw[a];rfl) (lt_of_get b)).trans b,r⟩
theorem Zg{v:Δ}(x:∀y∈ys,y.d.length=32)(l:OwnR w base v ys)(y:RV)(z:y.d.length=32)(ad:Addr)(c:Nat)(f:∀j u,(RV.cells y)[j]?=some u->w.cell? (ad.add j)=some u)(r:base<=w.heap.size)(C:ys.length<=2199023255550)(ty:TypeId):
 ∃v' w',(Builtin.append_ #[119,119] ty #[v,σ (some ad) 1 c]).run prog w= .ok v' w'/\OwnR w' base v' (ys++[y])/\w.grownBy w' v.ownBlock/\(v'.ownBlock=v.ownBlock∨v'.ownBlock=some w.heap.size):=by
 obtain⟨i,k,n,b,m⟩:=QE;have d:=RV.len z;obtain⟨v',w',h,p,s,_⟩:=ET (P:=prog) w base 119 ty 118 i _ 34 64 υ119 k n b m rfl (by decide) v ys.length (flatR ys) l ad 1 c (RV.cells y) (by rw[d]) f y.one (by unfold maxLen;omega) (by omega) r;refine⟨v',w',h,?_,s,?_⟩
 ·unfold OwnR;rw[Gt,JR,Af];exact p
 ·rcases l.2 with⟨rfl,G⟩|⟨g,cap,cur,rfl,D,A,F,E,t,B⟩
  ·have a:=EU (P:=prog) w 119 ty 118 i _ υ119 k n ad 1 c (RV.cells y) (by rw[b,d]) f (by decide) (by decide) (by rw[m];decide);rw[h]at a;injection a with e o;right;rw[e];rfl
  ·by_cases q:ys.length+1<=cap
   ·have a:=EE (P:=prog) w 119 ty 118 i υ119 k g ys.length cap cur A ad 1 c (RV.cells y) (by rw[b,d]) f y.one q (by rw[t,b,d];omega);rw[h]at a;injection a with e o;left;rw[e];rfl
   ·have a:=EF (P:=prog) w 119 ty 118 i _ υ119 k n ⟨g,0,none⟩ ys.length cap (flatR ys) (by rw[b,FD x]) (DP l (g:=g) rfl) ad 1 c (RV.cells y) (by rw[b,d]) f (by omega) (by omega) (growslice_fits (by omega) (by rw[m];omega));rw[h]at a;injection a with e o;right;rw[e];rfl
def SoR(base:Nat)(v:Γ)(it:Δ)(rs:List PR):Prop:=∃ys:List RV,OwnR v base it ys/\RefsAt (λb=>base<=b/\it.ownBlock≠some b) v ys rs
theorem SA(base:Nat)(v:Γ):SoR base v (ε) []:=⟨[],Dg _ _ _ _,rfl,(λy a=>by cases a),λi y r h=>by simp at h⟩
theorem SoR.keep{v:Γ}{it:Δ}(h:SoR base v it rs)(e:∀b,base<=b->b<v.heap.size->v'.heap[b]?=v.heap[b]?):SoR base v' it rs:=by
 obtain⟨ys,d,i⟩:=h;exact⟨ys,Ng d λg f a=>e g (Ot d f).1 a,i.go λb c a=>⟨e b c.1 a,c⟩⟩
theorem SoR.all{v:Γ}{it:Δ}(h:SoR base v it rs)(c:Λ v v'):SoR base v' it rs:=h.keep λb _ a=>c.block b a
theorem KS{wr w1:Γ}{it:Δ}{y:RV}(G:base<=wr.heap.size)(h:SoR base wr it rs)(n:Λ wr w1)(w:RefAt (λb=>wr.heap.size<=b) w1 y r)(D:rs.length<=2199023255550)(ty:TypeId):
 ∃v' d,(Builtin.append_ #[119,119] ty #[it,σ (some ⟨w1.heap.size,0,none⟩) 1 1]).run prog (w1.alloc (.cells y.cells.toArray 118))= .ok v' d/\SoR base d v' (rs++[r])/\Below base wr d:=by
 obtain⟨ys,k,m⟩:=h;obtain⟨Y,x⟩:∃Y:Obj,Obj.cells y.cells.toArray 118=Y:=⟨_,rfl⟩;rw[x];have s:(w1.alloc Y).heap.size=w1.heap.size+1:=by simp
 have c:Λ wr (w1.alloc Y):=n.alloc n.size _;have F:=n.size;have q:(w1.alloc Y).heap[w1.heap.size]?=some Y:=Ak w1 Y;have z:∀j u,(RV.cells y)[j]?=some u->(w1.alloc Y).cell? ((⟨w1.heap.size,0,none⟩:Addr).add j)=some u:=by
  intro j u E;rw[BO,A6];rw[<-x]at q⊢;rw[Aj _ _ _ _ _ _ q];simpa using E
 obtain⟨v',d,C,A,f,B⟩:=Zg m.2.1 (Ng k λg _ o=>c.block g o) y w.len _ 1 z (by omega) (by rw[<-m.1];exact D) ty;have l:∀b,b<w1.heap.size+1->it.ownBlock≠some b->d.heap[b]?=(w1.alloc Y).heap[b]?:=λb a e=>f.block b (by rw[s];exact a) (λh=>e h.symm);have v:∀g,it.ownBlock=some g->g<wr.heap.size:=λg o=>(Ot k o).2;have t:∀b,b<w1.heap.size->it.ownBlock≠some b->v'.ownBlock≠some b:=λb a e h=>by
  rcases B with p|p
  ·exact e (p.symm.trans h)
  ·rw[p,s]at h;cases h;omega
 refine⟨v',d,C,⟨_,A,RefsAt.snoc (m.go λb a i=>⟨?_,a.1,t b (by omega) a.2⟩) (w.go λb a i=>⟨?_,by omega,?_⟩)⟩,?_⟩
 ·rw[l b (by omega) a.2];exact c.block b i
 ·have e:it.ownBlock≠some b:=λh=>by have:=v b h;omega
  rw[l b (by omega) e,Ax _ _ _ i]
 ·refine⟨f.os.trans c.os,f.tape.trans c.tape,f.output.trans c.output,Au c.size f.size,λb a=>?_⟩;rw[l b (by omega) (λh=>by have:=(Ot k h).1;omega)];exact c.block b (by omega)
 ·exact t b i (λh=>by have:=v b h;omega)
theorem SoR.kids{v:Γ}{it:Δ}(h:SoR base v it rs):∃d a,it=σ d rs.length a/\rs.length<=a/\a<=maxLen/\(d=none->rs.length=0/\a=0)/\KidsAt (λb=>base<=b) v d rs:=by
 obtain⟨ys,f,c⟩:=h;have m:=c.1;rcases f.2 with⟨rfl,C⟩|⟨g,cap,cur,rfl,o,D,A,p,B,y⟩
 ·have:rs=[]:=Aw (by omega);subst this;exact⟨none,0,rfl,Ab _,by unfold maxLen;omega,λ_=>⟨rfl,rfl⟩,λj r s=>by simp at s⟩
 ·refine⟨some ⟨g,0,none⟩,cap,by rw[m],by omega,p,λh=>(by cases h),λj r n=>?_⟩;have i:j<ys.length:=by rw[<-m];exact(Ar.1 n).1
  refine⟨g,0,ys[j],rfl,o,λk u t=>?_,(c.2.2 j _ r (Ad i) n).go λb w _=>⟨rfl,w.1⟩⟩;have e:ys=ys.take j++ys[j]::ys.drop (j+1):=by rw[<-Bv i,Bj]
  have q:(ys.take j).length=j:=by rw[Ap];omega
  have l:=Sv (pre:=ys.take j) (post:=ys.drop (j+1)) (λz x=>c.2.1 z (Bb x)) t;rw[q,<-e]at l;have:=DP f (g:=g) rfl (j*34+k) u l;rw[BO]at this;rw[show 0+j*34+k=0+(j*34+k)from by omega];exact this
def ddNode(t:T):PN:=
 if t.its.length=2 then
  (if(unpP (t.its.getD 0 t0).bs).2.1=true then⟨1,(unpP (t.its.getD 0 t0).bs).1,(t.its.getD 1 t0).bs,r0,[]⟩
   else⟨2,(unpP (t.its.getD 0 t0).bs).1,[],drefP (t.its.getD 1 t0),[]⟩)
 else⟨3,[],(t.its.getD 16 t0).bs,r0,(t.its.take 16).map drefP⟩
theorem SB(h:refOfP u=some r):r=drefP u:=by
 unfold refOfP at h;unfold drefP;by_cases d:u.l=true
 ·rw[Ai d]at h⊢;by_cases a:(mP u).2=0
  ·rw[Ai a]at h;cases h;rw[Gl a]
  ·rw[Ae a]at h;cases h
 ·rw[Ae d]at h⊢;by_cases c:u.bs.length=0
  ·rw[Ai c]at h;cases h;rw[Ae (by omega)]
  ·rw[Ae c]at h;by_cases b:u.bs.length=32
   ·rw[Ai b]at h⊢;cases h;rfl
   ·rw[Ae b]at h;cases h
theorem SC:∀{ts:List T}{b:List PR},kidsP ts=some b->b=ts.map drefP
 |[],b,h=>by cases h;rfl
 |t::l,b,h=>by
  rw[kidsP]at h;cases d:refOfP t with
  |none=>rw[d]at h;cases h
  |some a=>
   rw[d]at h;dsimp only at h;cases c:kidsP l with
   |none=>rw[c]at h;cases h
   |some l'=>
    rw[c]at h;cases h;rw[Bd,<-SC c,<-SB d]
theorem Nh{t:T}{n:PN}(h:nodeOfP t=some n):n=ddNode t/\(t.its.length=2∨t.its.length=17):=by
 unfold nodeOfP at h;unfold ddNode;by_cases f:t.its.length=2
 ·rw[Ai f]at h⊢;refine⟨?_, .inl f⟩;unfold pathP at h;split at h
  ·cases h
  ·split at h
   ·rename_i a;rw[Ai a];split at h
    ·cases h
    ·cases h;rfl
   ·rename_i a;rw[Ae a];cases e:refOfP (t.its.getD 1 t0)with
    |none=>rw[e]at h;cases h
    |some c=>rw[e]at h;cases h;rw[<-SB e]
 ·rw[Ae f]at h⊢;by_cases b:t.its.length=17
  ·rw[Ai b]at h;refine⟨?_, .inr b⟩;unfold branchP at h;cases d:kidsP (t.its.take 16)with
   |none=>rw[d]at h;cases h
   |some g=>
    rw[d]at h;dsimp only at h;split at h
    ·cases h
    ·cases h;rw[<-SC d]
  ·rw[Ae b]at h;cases h
theorem XaJ{e:Nat}(a:isB b)(hd:decP b= .bad e):ND b=none:=by rw[Sc a,hd]
theorem Xby{t:T}(d:isB b)(hd:decP b= .ok t)(h:¬(t.its.length=2∨t.its.length=17)):ND b=none:=by
 cases e:ND b with
 |none=>rfl
 |some n=>
  obtain⟨t',a,c,_⟩:=Fg d e;rw[hd]at a;cases a;exact absurd (Nh c).2 h
theorem Rh{t:T}(a:isB b)(hd:decP b= .ok t)(g:okN (ddNode t)):ND b=if NR (ddNode t)=true/\NE (ddNode t)=b then some (ddNode t)else none:=by
 by_cases h:NR (ddNode t)=true/\NE (ddNode t)=b
 ·rw[Ai h];have:=VR g h.1 (by rw[h.2];exact a);rwa [h.2]at this
 ·rw[Ae h];cases f:ND b with
  |none=>rfl
  |some n=>
   obtain⟨t',d,i,_⟩:=Fg a f;rw[hd]at d;cases d;obtain⟨e,c,_⟩:=Gk a f;rw[(Nh i).1]at e c;exact absurd ⟨e,c⟩ h
theorem Md{t:T}(d:isB b)(h:decP b= .ok t)(c:u∈t.its):(drefP u).i.length<b.length:=by
 have e:=(Jk d h c).1;unfold drefP;split
 ·by_cases a:(mP u).2=0
  ·rw[Gl a];exact e
  ·rw[NT a];simp;omega
 ·split
  ·simp;omega
  ·show(0:Nat)<_;omega
theorem Rj{t:T}(d:isB b)(h:decP b= .ok t)(j:t.its.length=2∨t.its.length=17):∀r,(r=(ddNode t).c∨r∈(ddNode t).ks)->r.i.length<b.length:=by
 have e:r0.i.length<b.length:=by have:=(Jk d h (FB (l:=t.its) (i:=0) (by omega))).1;show 0<_;omega
 intro r a;unfold ddNode at a;by_cases f:t.its.length=2
 ·rw[Ai f]at a;split at a
  ·rcases a with rfl|a
   ·exact e
   ·cases a
  ·rcases a with rfl|a
   ·exact Md d h (FB (by omega))
   ·cases a
 ·rw[Ae f]at a;rcases a with rfl|a
  ·exact e
  ·obtain⟨u,g,rfl⟩:=BC.1 a;exact Md d h (Bb g)
end
namespace Ni
theorem Us{b:τ}(h:0<b.length):(nib b).getD 0 0=b.getD 0 0/16/\(nib b).getD 1 0=b.getD 0 0%16:=by
 cases b with
 |nil=>simp at h
 |cons c r=>exact⟨rfl,rfl⟩
theorem ag_drop{w:Γ}{g off n c k:Nat}{bs:τ}(h:Ag w (ζ g off) n c bs)(l:k<n):Ag w (ζ g (off+k)) (n-k) (c-k) (bs.drop k):=by
 have m:=h.l;rcases h.i with⟨r,_⟩|⟨gb,i,a,o,s,p,q,e⟩
 ·omega
 ·injection a with a;injection a with b f;subst b f;refine⟨.inr ⟨g,off+k,rfl,by rw[A3];omega,by omega,by omega,by omega,λj d=>?_⟩,(λh=>by cases h),by rw[A3];omega,KZ h.b k⟩;rw[A3]at d;rw[M4,C4];exact e (k+j) (by omega)
theorem J8(w:Γ)(a:Ω)(c:Nat)(h:a=none->c=0):Ag w a 0 c []:=⟨.inl ⟨rfl,rfl⟩,λe=>⟨rfl,h e⟩,rfl,λx b=>by cases b⟩
theorem runpack_any(a:Ω)(n c:Nat)(b:τ)(w:Γ)(h:Ag w a n c b)(hn:2*n<=140737488355328):
 Calls prog 168 #[σ a n c] w λe w'=>(∃a' m c',e=ω (θ #[σ a' m c',β (unpP b).2.1,ι ((unpP b).2.2:Nat)])/\Ag w' a' m c' (unpP b).1/\(∀g off,a'=some ⟨g,off,none⟩->0<m->w.heap.size<=g))/\Λ w w':=by
 have U:=h.l;have G:=rof_any a n c b w h hn;by_cases h0:n=0
 ·subst h0;have e:b=[]:=Aw U;subst e;rw[RD];simp only;have B:=Aa G;clear h U G;go_enter func168,ntmps168;go_wp2_with fail;refine B.out.mono ?_;rintro e w1⟨⟨z,c1,rfl,_,_,_,_⟩,j⟩;rw[Nat.mul_zero];have p:=Aa j;clear j;go_wp2_with fail;go_ret3;exact⟨⟨none,0,0,rfl,ag_nil _,λg off h=>by cases h⟩,p.out⟩
 have hx:=h.b _ (getD_mem (l:=b) (i:=0) (by omega));have A:=RF (b:=b) (by omega);have t:=OH (b:=b) (by omega);obtain⟨O,P⟩:=Us (b:=b) (by omega);generalize b.getD 0 0=x at*;obtain⟨ae,ac⟩:=hx;obtain⟨f,T⟩:∃f,x/16=f:=⟨_,rfl⟩;obtain⟨s,v⟩:∃s,x%16=s:=⟨_,rfl⟩;have r:badU x↔(f>3∨(f%2=0/\s≠0)):=by unfold badU;rw[T,v]
 rw[T]at O t;rw[v]at P;have aa:0<=f:=by omega
 have af:f<=15:=by omega
 have aj:0<=s:=by omega
 have al:s<=15:=by omega
 obtain⟨N,hN⟩:∃N,nib b=N:=⟨_,rfl⟩;rw[hN]at O P G t;clear T v ae ac hN;obtain⟨M,Z⟩:∃M,2*n=M:=⟨_,rfl⟩;have am:2<=M:=by omega
 rw[Z]at G hn;have B:=Aa G;have ak:((M:Int)==0)=false:=by rw[Bo];omega
 have ah:(0:Int)<M:=by omega
 have ai:(1:Int)<M:=by omega
 clear h U G Z h0;have X:∀(g off c1:Nat)(w1:Γ),Ag w1 (ζ g off) M c1 N->w1.cell? ⟨g,off,none⟩=some (η f)/\w1.cell? ⟨g,off+1,none⟩=some (η s):=by
  intro g off c1 w1 d;obtain⟨g',Y,L,h2,V,h4⟩:=ag_head d (by omega);injection L with L;injection L with e2 e3;subst e2 e3;have h5:=h4 0 (by omega);have h6:=h4 1 (by omega);rw[O,Cz]at h5;rw[P]at h6;exact⟨h5,h6⟩
 have F:=Aa X;clear X O P;have W:∀(z:Ω)(c1:Nat)(w1:Γ),Ag w1 z M c1 N->∃g off,z=some ⟨g,off,none⟩:=by
  intro z c1 w1 d;obtain⟨g',Y,L,_⟩:=ag_head d (by omega);exact⟨g',Y,L⟩
 have C:=Aa W;clear W;by_cases V:f>3
 ·rw[A (r.2 (.inl V))];simp only;clear A t r;go_enter func168,ntmps168;go_wp2_with fail;refine B.out.mono ?_;rintro e w1⟨⟨z,c1,rfl,H,u,d,o⟩,j⟩;obtain⟨g,off,rfl⟩:=C.out _ _ _ d;have q:=Aa (show w.heap.size<=g from o (by omega) g off rfl);clear o;obtain⟨J,I⟩:=F.out _ _ _ _ d;unfold maxLen at u;have p:=Aa j;clear j d;go_wp2_with fail;go_ret3;exact⟨⟨none,0,0,rfl,ag_nil _,λg off h=>by cases h⟩,p.out⟩
 have ad:f=0∨f=1∨f=2∨f=3:=by omega
 clear V aa af;rcases ad with rfl|rfl|rfl|rfl
 ·
  by_cases v:s=0
  ·
   subst v;rw[t (λj=>by have:=r.1 j;omega),Ai (by omega)];simp only;rw[Bi (by omega)];clear A t r;go_enter func168,ntmps168;go_wp2_with fail;refine B.out.mono ?_;rintro e w1⟨⟨z,c1,rfl,H,u,d,o⟩,j⟩;obtain⟨g,off,rfl⟩:=C.out _ _ _ d;have q:=Aa (show w.heap.size<=g from o (by omega) g off rfl);clear o;obtain⟨J,I⟩:=F.out _ _ _ _ d;unfold maxLen at u;have p:=Aa j;have y:=Aa d;have S:(2:Int)<=c1:=(by omega);have Q:(M:Int)<=c1:=(by omega);have R:(2:Int)<=M:=(by omega);clear j d;by_cases K:c1=2
   ·have D:M=2:=(by omega);subst D;subst K;have E:Hid (N.drop 2=[]):=Aa (Bx (by rw[y.out.l];exact Ab _));go_wp2_with fail
    go_region
    all_goals
     go_wp2_with fail;go_ret3;exact⟨⟨_,_,_,rfl,by rw[E.out];exact J8 _ _ _ (λ_=>rfl),λg off h=>by first|(cases h;done)|(intro _;cases h;exact q.out)⟩,p.out.drew⟩
   ·by_cases D:M=2
    ·subst D;have E:Hid (N.drop 2=[]):=Aa (Bx (by rw[y.out.l];exact Ab _));go_wp2_with fail
     go_region
     all_goals
      go_wp2_with fail;go_ret3;exact⟨⟨_,_,_,rfl,by rw[E.out];exact J8 _ _ _ (λh=>by cases h),λg off h _=>by cases h;exact q.out⟩,p.out.drew⟩
    ·go_wp2_with fail
     go_region
     all_goals
      go_wp2_with fail;go_ret3;exact⟨⟨_,_,_,rfl,(ag_drop y.out (k:=2) (by omega)).drewN,λg off h _=>by cases h;exact q.out⟩,p.out.drew⟩
  ·
   rw[A (r.2 (.inr ⟨by omega,v⟩))];simp only;clear A t r;have ab:(s !=0)=true:=(by rw[BU];exact v);clear v;go_enter func168,ntmps168;go_wp2_with fail;refine B.out.mono ?_;rintro e w1⟨⟨z,c1,rfl,H,u,d,o⟩,j⟩;obtain⟨g,off,rfl⟩:=C.out _ _ _ d;have q:=Aa (show w.heap.size<=g from o (by omega) g off rfl);clear o;obtain⟨J,I⟩:=F.out _ _ _ _ d;unfold maxLen at u;have p:=Aa j;clear j d;go_wp2_with fail;go_ret3;exact⟨⟨none,0,0,rfl,ag_nil _,λg off h=>by cases h⟩,p.out⟩
 ·
  rw[t (λj=>by have:=r.1 j;omega),Ae (by omega)];simp only;rw[Bi (by omega)];clear A t r;go_enter func168,ntmps168;go_wp2_with fail;refine B.out.mono ?_;rintro e w1⟨⟨z,c1,rfl,H,u,d,o⟩,j⟩;obtain⟨g,off,rfl⟩:=C.out _ _ _ d;have q:=Aa (show w.heap.size<=g from o (by omega) g off rfl);clear o;obtain⟨J,I⟩:=F.out _ _ _ _ d;unfold maxLen at u;have p:=Aa j;have y:=Aa d;have S:(1:Int)<=c1:=by omega
  have Q:(M:Int)<=c1:=by omega
  have R:(1:Int)<=M:=by omega
  have K:¬c1=1:=by omega
  clear j d;go_wp2_with fail
  go_region
  all_goals
   go_wp2_with fail;go_ret3;exact⟨⟨_,_,_,rfl,(ag_drop y.out (k:=1) (by omega)).drewN,λg off h _=>by cases h;exact q.out⟩,p.out.drew⟩
 ·
  by_cases v:s=0
  ·
   subst v;rw[t (λj=>by have:=r.1 j;omega),Ai (by omega)];simp only;rw[AF (by omega)];clear A t r;go_enter func168,ntmps168;go_wp2_with fail;refine B.out.mono ?_;rintro e w1⟨⟨z,c1,rfl,H,u,d,o⟩,j⟩;obtain⟨g,off,rfl⟩:=C.out _ _ _ d;have q:=Aa (show w.heap.size<=g from o (by omega) g off rfl);clear o;obtain⟨J,I⟩:=F.out _ _ _ _ d;unfold maxLen at u;have p:=Aa j;have y:=Aa d;have S:(2:Int)<=c1:=(by omega);have Q:(M:Int)<=c1:=(by omega);have R:(2:Int)<=M:=(by omega);clear j d;by_cases K:c1=2
   ·have D:M=2:=(by omega);subst D;subst K;have E:Hid (N.drop 2=[]):=Aa (Bx (by rw[y.out.l];exact Ab _));go_wp2_with fail
    go_region
    all_goals
     go_wp2_with fail;go_ret3;exact⟨⟨_,_,_,rfl,by rw[E.out];exact J8 _ _ _ (λ_=>rfl),λg off h=>by first|(cases h;done)|(intro _;cases h;exact q.out)⟩,p.out.drew⟩
   ·by_cases D:M=2
    ·subst D;have E:Hid (N.drop 2=[]):=Aa (Bx (by rw[y.out.l];exact Ab _));go_wp2_with fail
     go_region
     all_goals
      go_wp2_with fail;go_ret3;exact⟨⟨_,_,_,rfl,by rw[E.out];exact J8 _ _ _ (λh=>by cases h),λg off h _=>by cases h;exact q.out⟩,p.out.drew⟩
    ·go_wp2_with fail
     go_region
     all_goals
      go_wp2_with fail;go_ret3;exact⟨⟨_,_,_,rfl,(ag_drop y.out (k:=2) (by omega)).drewN,λg off h _=>by cases h;exact q.out⟩,p.out.drew⟩
  ·
   rw[A (r.2 (.inr ⟨by omega,v⟩))];simp only;clear A t r;have ab:(s !=0)=true:=(by rw[BU];exact v);clear v;go_enter func168,ntmps168;go_wp2_with fail;refine B.out.mono ?_;rintro e w1⟨⟨z,c1,rfl,H,u,d,o⟩,j⟩;obtain⟨g,off,rfl⟩:=C.out _ _ _ d;have q:=Aa (show w.heap.size<=g from o (by omega) g off rfl);clear o;obtain⟨J,I⟩:=F.out _ _ _ _ d;unfold maxLen at u;have p:=Aa j;clear j d;go_wp2_with fail;go_ret3;exact⟨⟨none,0,0,rfl,ag_nil _,λg off h=>by cases h⟩,p.out⟩
 ·
  rw[t (λj=>by have:=r.1 j;omega),Ae (by omega)];simp only;rw[AF (by omega)];clear A t r;go_enter func168,ntmps168;go_wp2_with fail;refine B.out.mono ?_;rintro e w1⟨⟨z,c1,rfl,H,u,d,o⟩,j⟩;obtain⟨g,off,rfl⟩:=C.out _ _ _ d;have q:=Aa (show w.heap.size<=g from o (by omega) g off rfl);clear o;obtain⟨J,I⟩:=F.out _ _ _ _ d;unfold maxLen at u;have p:=Aa j;have y:=Aa d;have S:(1:Int)<=c1:=by omega
  have Q:(M:Int)<=c1:=by omega
  have R:(1:Int)<=M:=by omega
  have K:¬c1=1:=by omega
  clear j d;go_wp2_with fail
  go_region
  all_goals
   go_wp2_with fail;go_ret3;exact⟨⟨_,_,_,rfl,(ag_drop y.out (k:=1) (by omega)).drewN,λg off h _=>by cases h;exact q.out⟩,p.out.drew⟩
end Ni
section
open Ni (unpP)
variable {w1 v' : World} {y : V} {x : NV}
structure De(w1 v:Γ)(y:V)(x:NV):Prop where
 ib:B1 w1.heap.size v y
 nb:NBx (w1.heap.size+1) v x
 bel:Λ w1 v
 sz:w1.heap.size+2<=v.heap.size
theorem De.go{v:Γ}(h:De w1 v y x)(a:Λ v v'):De w1 v' y x:=⟨h.ib.go a,h.nb.go a,below_go h.bel a,Au h.sz a.size⟩
theorem De.setRow{v:Γ}(h:De w1 v y x)(a:NV)(b:a.c.d.length=32):De w1 (v.setRow (w1.heap.size+1) a.cells.toArray) y a:=
 ⟨DT h.ib (by omega),⟨AC _ _ _ _ _ _ h.nb.row,b⟩,Below.setRow h.bel (by omega) _,by simpa using h.sz⟩
theorem De.drew{v:Γ}(h:De w1 v y x):De w1 v.drew y x:=h.go (Ac _ _).drew
theorem De.above{v:Γ}(h:De w1 v y x)(a:Below (w1.heap.size+2) v v'):De w1 v' y x:=
 ⟨⟨(Av (w:=v) (a.block w1.heap.size (by omega))).trans h.ib.c0,(Av (w:=v) (a.block w1.heap.size (by omega))).trans h.ib.c1,(Av (w:=v) (a.block w1.heap.size (by omega))).trans h.ib.c2⟩,⟨(a.block _ (by omega)).trans h.nb.row,h.nb.l⟩,
  h.bel.trans (a.mono (by omega)),Au h.sz a.size⟩
theorem Rk(c:x.c.d.length=32)(b:Ω)(kn a:Nat):x.cells.toArray.setIfInBounds 37 (σ b kn a)=(NV.cells {x with ka:=b,kn:=kn,kc:=a}).toArray:=by
 rw[D7];congr 1;rw[NV.cells,NV.cells,show(37:Nat)=34+1+1+1 from rfl,EI,EI,EI,DC _ _ (by rw[RV.len c];omega),RV.len c];rfl
theorem De.put{v:Γ}(h:De w1 v y x)(b:Ω)(kn a:Nat):De w1 (v.setCell ⟨w1.heap.size+1,37,none⟩ (σ b kn a)) y {x with ka:=b,kn:=kn,kc:=a}:=by
 have c:∀k,k≠w1.heap.size+1->(v.setCell ⟨w1.heap.size+1,37,none⟩ (σ b kn a)).heap[k]?=v.heap[k]?:=λk d=>AA _ _ _ _ d;refine⟨⟨(Av (w:=v) (c w1.heap.size (by omega))).trans h.ib.c0,(Av (w:=v) (c w1.heap.size (by omega))).trans h.ib.c1,(Av (w:=v) (c w1.heap.size (by omega))).trans h.ib.c2⟩,⟨?_,h.nb.l⟩,h.bel.setCell (by show w1.heap.size<=w1.heap.size+1;omega) _,by simpa using h.sz⟩;rw[AU v (w1.heap.size+1) 37 _ 121 (σ b kn a) h.nb.row,Rk h.nb.l]
theorem Rl:(λ(c:Ω)(a b:Nat)=>prog.built 121 [(0,ι 3),(2,σ c a b)])=λc a b=>some (NV.cells ⟨3,none,0,0,c,a,b,rz,none,0,0⟩).toArray:=by kernel_rfl
theorem Nj(c:Ω)(a b:Nat):prog.built 121 [(0,ι 3),(2,σ c a b)]=some (NV.cells ⟨3,none,0,0,c,a,b,rz,none,0,0⟩).toArray:=AK (AK (AK Rl c) a) b
theorem SD{y:NV}(b:x.c.d.length=32)(a:y.c.d.length=32):x.cells.toArray.size=y.cells.toArray.size:=by rw[Ba,Ba,NV.len b,NV.len a]
section
variable {a : Act} {w : World}
theorem IM{x y:Operand}{o:Oper}(d:o.op= .store 119 x y)(g:Nat)(b:Ω)(m c:Nat)(old:Δ)(f:a.eval x=ψ g 37)(e:a.eval y=σ b m c)(i:w.cell? ⟨g,37,none⟩=some old)(h:∀o,w.frozen? ⟨g,o,none⟩=false):
 (execOp a.eval o).run prog w= .ok .skip (w.setCell ⟨g,37,none⟩ (σ b m c)):=by
 unfold execOp;rw[d];simp only[f,e];go_simp
end
theorem Nk{its:List T}{j:Nat}{t:T}(h:its[j]?=some t):(its.take (j+1)).map drefP=(its.take j).map drefP++[drefP t]:=by
 rw[DM h,Bp];rfl
theorem GC{w:Γ}{r:PR}{e:Ending}{w':Γ}(h:DRPost w r e w'):∃v,e=ω v/\(Λ w w'/\∃y:RV,v=γ y.cells.toArray/\RefAt (λb=>w.heap.size<=b) w' y r):=by
 obtain⟨⟨y,d,f⟩,c⟩:=h;exact⟨_,d,c,y,rfl,f.go λg a _=>⟨rfl,E8 a⟩⟩
theorem Ou(b:List Int)(f:∀i,i.length<b.length->DDSaid i):DDSaid b:=by
 intro a n c w b9 hn;have cv:isB b:=b9.b;have b3:=Aa f;have bv:=Aa b9;have Z:=Aa cv;obtain⟨c4,b2⟩:∃c4,ND b=c4:=⟨_,rfl⟩;rw[b2];have a3:=Aa b2;have cm:=Aa (W7 w);clear b9 f b2 cv;go_enter func158,ntmps158;go_upto_region 1 with fail;refine gen_w (p:=λv=>Code.wp _ _ _ _ v) (q:=λv=>Dd w v) cm.out ?_;clear cm;intro v D0;have b4:=Aa D0;have c7:=Aa (K4 a n c b v (bv.out.at D0.bel) hn);clear D0;go_wp2_with fail;refine c7.out.mono ?_;intro e w1 hp;obtain⟨L,hp⟩:=hp;have ay:=Aa (b4.out.go L);have db:=Aa b4.out.sz;cases hq:decP b with
 |bad er=>
  rw[hq]at hp;have f:=a3.out;rw[XaJ Z.out hq]at f;subst f;obtain⟨rfl,bq⟩:=hp;have du:((er:Int) !=0)=true:=by rw[BU];omega
  clear L hq bq;go_upto_region 2 with fail;refine gen_w (p:=λv=>Code.wp _ _ _ _ v) (q:=λv=>Dd w v) (ay.out.go (below_new w1 _)) ?_;intro v2 D2;have av:=Aa D2;clear D2;go_upto_region 3 with fail;go_wp2_with (first|refine A5 rfl 121 _ _ rfl _ nz.cells.toArray rfl rfl 121 _ av.out.row (Cm rfl) (Cg rfl) (Am (NV.one _)) ?_);refine Aq (BX results158 _ _ w.heap.size nz rfl rfl (AC _ _ _ _ _ _ av.out.row)) rfl ?_;exact⟨Below.setRow av.out.bel (Ab _) _,rfl⟩
 |ok t=>
  rw[hq]at hp;obtain⟨y,rfl,hy⟩:=hp;have dj:=Aa (show LiesP (λb=>w.heap.size+1<=b) w1 t y from BD (λb hb dl=>⟨rfl,by have:=db.out;omega⟩) _ _ hy);have HQ:=Aa hq;have cs:=Aa (MW Z.out hq);clear L hq hy db b4 c7;go_upto_region 2 with fail;refine gen_w (p:=λv=>Code.wp _ _ _ _ v) (q:=λv=>B1 w1.heap.size v y/\Below w1.heap.size w1 v/\v.heap.size=w1.heap.size+1) ⟨E9 w1 y,below_new w1 _,by simp⟩ ?_;rintro v2⟨B2,cz,ct⟩;have bb:=Aa B2;have a8:=Aa cz;have al:=Aa ct;clear B2 cz ct;obtain⟨its,bl⟩:∃its,t.its=its:=⟨_,rfl⟩;have dg:y.m=its.length/\y.m<=y.ic/\y.ic<=maxLen/\LiesPAll (λb=>w.heap.size+1<=b) w1 its y.ia 0:=by
   obtain⟨l,bs,bo⟩:=t;have e:bo=its:=bl;subst e;obtain⟨⟨hl,-,hm,bw,b8,-⟩,bk⟩:=liesP_eq.1 dj.out;exact⟨hm,bw,b8,bk⟩
  obtain⟨hm,bw,b8,bk⟩:=dg;unfold maxLen at b8;rw[bl]at cs;have a0:=Aa bl;have HM:=Aa hm;have bm:=Aa bk;clear bl hm bk;by_cases h2:y.m=2
  ·have c8:its.length=2:=(by rw[<-HM.out,h2]);have c2:=bb.out.c2;rw[h2]at c2;obtain⟨g,off,X,A0⟩:=DG bm.out 0 (its.getD 0 t0) (by rw[List.getD,Ad (by omega)];rfl);obtain⟨g1,dn,d,A1⟩:=DG bm.out 1 (its.getD 1 t0) (by rw[List.getD,Ad (by omega)];rfl);have ha:=A1.ha;rw[A0.ha]at ha;cases ha;have ca:=Aa (cs.out _ (FB (l:=its) (i:=0) (by omega)));rw[A0.ha]at c2;have ax:=Aa A0.ha;have cg:=Aa A0;have Y:=Aa A1;have B:=Aa (show ddNode t=(if(unpP (its.getD 0 t0).bs).2.1=true then⟨1,(unpP (its.getD 0 t0).bs).1,(its.getD 1 t0).bs,r0,[]⟩else⟨2,(unpP (its.getD 0 t0).bs).1,[],drefP (its.getD 1 t0),[]⟩)from by unfold ddNode;rw[a0.out,Ai c8]);generalize its.getD 0 t0=tt0 at cg ca B;generalize its.getD 1 t0=tt1 at Y B;have H2:=Aa h2;clear c8 A0 A1 h2 bw;go_upto_region 4 with fail;rename_i KK E;refine CX<|B9 33 (.pointer (some ⟨w1.heap.size,2,none⟩)) rfl (by kernel_rfl) (by kernel_rfl)<|B9 34 (.slice (some ⟨g,off,none⟩) 2 y.ic) rfl (by kernel_rfl) (CQ rfl (by kernel_rfl) c2)<|B9 35 (.pointer (some ⟨w1.heap.size,2,none⟩)) rfl (by kernel_rfl) (by kernel_rfl)<|B9 36 (.slice (some ⟨g,off,none⟩) 2 y.ic) rfl (by kernel_rfl) (CQ rfl (by kernel_rfl) c2)<|B9 37 (.int .i64 2) rfl (by kernel_rfl) (by kernel_rfl)<|B9 38 (.int .i64 1) rfl (by kernel_rfl) (by kernel_rfl)<|B9 39 (.pointer (some ⟨g,off+(0+1)*3,none⟩)) rfl (by kernel_rfl) (ER (j:=0+1) (m:=2) (c:=y.ic) rfl (by kernel_rfl) (by kernel_rfl) (by omega))<|B9 40 (.pointer (some ⟨g,off+(0+1)*3+1,none⟩)) rfl (by kernel_rfl) (by kernel_rfl)<|B9 41 (.slice d.ba d.bn d.bc) rfl (by kernel_rfl) (FN rfl (by kernel_rfl) (AS a8.out Y.out.c1))<|B9 42 (.agg (NV.cells ⟨3,none,0,0,d.ba,d.bn,d.bc,rz,none,0,0⟩).toArray) rfl (by kernel_rfl) (Eh 121 _ rfl [(0, .int .i64 3),(2, .slice d.ba d.bn d.bc)] (by kernel_rfl) _ (Nj _ _ _))<|NU 6 (.pointer (some ⟨w1.heap.size+1,0,none⟩)) rfl (by kernel_rfl) ((Ip rfl).trans (by rw[al.out])) ?_;refine Fw rfl (by kernel_rfl) (D1 121 _ _ rfl (w1.heap.size+1) (NV.cells ⟨3,none,0,0,d.ba,d.bn,d.bc,rz,none,0,0⟩).toArray (by kernel_rfl) (by kernel_rfl) 121 nz.cells.toArray (by rw[<-al.out];exact Ak _ _) (Cm rfl) (Cg rfl) (Am (NV.one _)))<|E _ _ ?_
   go_frame
   refine gen_w (p:=λv=>Code.wp _ _ _ _ v) (q:=λv=>De w1 v y ⟨3,none,0,0,d.ba,d.bn,d.bc,rz,none,0,0⟩) (by
    have e:=De.setRow (w1:=w1) (v:=v2.alloc (.cells nz.cells.toArray 121)) (y:=y) (x:=nz) ⟨bb.out.alloc _,⟨by rw[<-al.out];exact Ak _ _,rfl⟩,below_go a8.out (below_new _ _),by simp[al.out]⟩ ⟨3,none,0,0,d.ba,d.bn,d.bc,rz,none,0,0⟩ rfl;exact e) ?_
   intro v4 D4;have af:=Aa D4;clear D4 E c2;have c2:=af.out.ib.c2;rw[ax.out,H2.out]at c2;have bn:Ag w1 X.ba X.bn X.bc tt0.bs:=(by obtain⟨l,bs,bo⟩:=tt0;exact(lies_eq.1 (CS _ _ cg.out.li)).2.1);have HU:=Aa (Ni.runpack_any X.ba X.bn X.bc tt0.bs v4 (bn.at af.out.bel) (by have:=bn.l;have:=ca.out;omega));have cy:=Aa (Ni.unp_le tt0.bs);have cq:tt0.bs.length=X.bn:=bn.l;have dq:=Aa cq;clear bn cq;obtain⟨pp,bx⟩:∃pp,(unpP tt0.bs).1=pp:=⟨_,rfl⟩;obtain⟨lf,b5⟩:∃lf,(unpP tt0.bs).2.1=lf:=⟨_,rfl⟩;obtain⟨er,bq⟩:∃er,(unpP tt0.bs).2.2=er:=⟨_,rfl⟩;rw[bx,b5,bq]at HU;rw[bx]at cy;rw[bx,b5]at B;clear bx b5 bq;go_upto_region 6 with fail;rename_i KK E;refine CX<|B9 48 (.pointer (some ⟨w1.heap.size,2,none⟩)) rfl (by kernel_rfl) (by kernel_rfl)<|B9 49 (.slice (some ⟨g,off,none⟩) 2 y.ic) rfl (by kernel_rfl) (CQ rfl (by kernel_rfl) c2)<|B9 50 (.pointer (some ⟨g,off+(0+0)*3,none⟩)) rfl (by kernel_rfl) (ER (j:=0+0) (m:=2) (c:=y.ic) rfl (by kernel_rfl) (by kernel_rfl) (by omega))<|B9 51 (.pointer (some ⟨g,off+(0+0)*3+1,none⟩)) rfl (by kernel_rfl) (by kernel_rfl)<|B9 52 (.slice X.ba X.bn X.bc) rfl (by kernel_rfl) (FN rfl (by kernel_rfl) (AS af.out.bel cg.out.c1))<|KH 53 rfl (by kernel_rfl) 168 #[.slice X.ba X.bn X.bc] (by kernel_rfl) (R:=λval w'=>Below v4.heap.size v4 w'/\∃a' m c',val= .tuple #[.slice a' m c', .bool lf, .int .i64 (er:Nat)]/\Ag w' a' m c' pp/\(∀g off,a'=some ⟨g,off,none⟩->0<m->v4.heap.size<=g)) (HU.out.mono (by rintro e w'⟨⟨a',m,c',rfl,h1,h2⟩,h3⟩;exact⟨_,rfl,h3,a',m,c',rfl,h1,h2⟩)) ?_;rintro val w6⟨c9,a',m,c',rfl,b1,cj⟩;refine B9 47 (.tuple #[.slice a' m c', .bool lf, .int .i64 (er:Nat)]) rfl (by kernel_rfl) (by kernel_rfl)<|B9 54 (.slice a' m c') rfl (by kernel_rfl) (by kernel_rfl)<|B9 55 (.bool lf) rfl (by kernel_rfl) (by kernel_rfl)<|B9 56 (.int .i64 (er:Nat)) rfl (by kernel_rfl) (by kernel_rfl)<|B9 7 (.slice a' m c') rfl (by kernel_rfl) (by kernel_rfl)<|B9 8 (.bool lf) rfl (by kernel_rfl) (by kernel_rfl)<|B9 9 (.int .i64 (er:Nat)) rfl (by kernel_rfl) (by kernel_rfl)<|E _ _ ?_;have ae:=Aa (af.out.go c9);have df:=Aa (show AgK (λg=>w1.heap.size+2<=g) w6 a' m c' pp from⟨b1,by have:=b1.l;have:=cy.out;have:=ca.out;omega,λg off e h0=>by have:=cj g off e h0;have:=af.out.sz;omega⟩);clear E c9 b1 cj c2 HU af;have c2:=ae.out.ib.c2;rw[ax.out,H2.out]at c2;have cx:=Aa (Mb tt1 d w6 (Cl ae.out.bel _ _ (CS _ _ Y.out.li)))
   go_frame
   go_upto_region 7 with fail;rename_i KK E;refine CX<|B9 57 (.slice a' m c') rfl (by kernel_rfl) (by kernel_rfl)<|B9 58 (.pointer (some ⟨w1.heap.size,2,none⟩)) rfl (by kernel_rfl) (by kernel_rfl)<|B9 59 (.slice (some ⟨g,off,none⟩) 2 y.ic) rfl (by kernel_rfl) (CQ rfl (by kernel_rfl) c2)<|B9 60 (.pointer (some ⟨g,off+(0+1)*3,none⟩)) rfl (by kernel_rfl) (ER (j:=0+1) (m:=2) (c:=y.ic) rfl (by kernel_rfl) (by kernel_rfl) (by omega))<|B9 61 (.agg #[.bool d.l, .slice d.ba d.bn d.bc, .slice d.ia d.m d.ic]) rfl (by kernel_rfl) (GN rfl (by kernel_rfl) (AS ae.out.bel Y.out.c0) (AS ae.out.bel Y.out.c1) (AS ae.out.bel Y.out.c2))<|KH 62 rfl (by kernel_rfl) 169 #[.agg #[.bool d.l, .slice d.ba d.bn d.bc, .slice d.ia d.m d.ic]] (by kernel_rfl) (R:=λval w'=>Below w6.heap.size w6 w'/\∃z:RV,val= .agg z.cells.toArray/\RefAt (λb=>w6.heap.size<=b) w' z (drefP tt1)) (cx.out.mono (λe w' h=>GC h)) ?_;rintro val w7⟨bj,z,rfl,N⟩;have b7:=Aa N.len;refine B9 63 (.agg (NV.cells ⟨2,a',m,c',none,0,0,z,none,0,0⟩).toArray) rfl (by kernel_rfl) (Eh 121 _ rfl [(0, .int .i64 2),(1, .slice a' m c'),(3, .agg z.cells.toArray)] (by kernel_rfl) _ (Gm _ _ _ _ b7.out))<|Fw rfl (by kernel_rfl) (D1 121 _ _ rfl (w1.heap.size+1) (NV.cells ⟨2,a',m,c',none,0,0,z,none,0,0⟩).toArray (by kernel_rfl) (by kernel_rfl) 121 _ (ae.out.go bj).nb.row (Cm b7.out) (SD (ae.out.go bj).nb.l b7.out) (Am (NV.one _)))<|E _ _ ?_;have aj:=Aa ((ae.out.go bj).setRow ⟨2,a',m,c',none,0,0,z,none,0,0⟩ N.len);have az:Keep (λg=>w1.heap.size+2<=g) (λg=>w1.heap.size+2<=g) w7 (w7.setRow (w1.heap.size+1) (NV.cells ⟨2,a',m,c',none,0,0,z,none,0,0⟩).toArray):=λk J hk=>⟨Bc _ _ _ _ (by omega),J⟩;have bp:=Aa ((df.out.go (Keep.below bj)).go az);have cd:=Aa (RefAt.go az (N.go (λk J hk=>⟨rfl,by have:=ae.out.sz;have:w6.heap.size<=k:=J;omega⟩)));generalize w7.setRow (w1.heap.size+1) (NV.cells ⟨2,a',m,c',none,0,0,z,none,0,0⟩).toArray=vT at aj bp cd⊢;clear E bj N az c2 cx ae df
   go_frame
   have bz:=Aa ay.out.sz;cases lf with
   |false=>
    have V:=B.out;rw[Ae (by simp)]at V;obtain⟨D,ad⟩:∃D:PN,D=⟨2,pp,[],drefP tt1,[]⟩:=⟨_,rfl⟩;rw[<-ad]at V;clear B;have B:=Aa V
    have M:=Aa (show NodeAt (λg=>w.heap.size<g) vT ⟨2,a',m,c',none,0,0,z,none,0,0⟩ D from by
     subst ad;have hs:=bz.out;exact⟨rfl,bp.out.go (λk J hk=>⟨rfl,by omega⟩),Fx _ _,cd.out.go (λk J hk=>⟨rfl,by omega⟩),⟨rfl,A8 _,A8 _,A8 _,λ_=>⟨rfl,rfl⟩⟩,Jt _ _ _⟩)
    have ah:=aj;clear V ad aj;go_upto_region 14 with fail;have am:=Aa (GB _ ⟨2,a',m,c',none,0,0,z,none,0,0⟩ D vT M.out (λr bi _=>b3.out r.i (Rj Z.out HQ.out (by rw[a0.out,<-HM.out];first|exact .inl H2.out|exact .inr bc.out) r (by rw[B.out];exact bi))));have bf:=Aa M.out.okN;have aa:=Aa M.out.c.len;go_wp2_with (first|refine CC rfl _ rfl (w1.heap.size+1) rfl ⟨2,a',m,c',none,0,0,z,none,0,0⟩ ah.out.nb ?_);refine am.out.mono ?_;rintro e w5⟨⟨a5,m5,c5,rfl,A,-⟩,ac⟩;have ao:=Aa (ah.out.go ac);have o:=Aa (ay.out.go ao.out.bel);have a6:=Aa (M.out.go (Keep.below ac));have f:=a3.out;rw[Rh Z.out HQ.out (by rw[B.out];exact bf.out),B.out]at f;obtain⟨q,ab⟩:∃q,NR D=q:=⟨_,rfl⟩;rw[ab]at A f⊢;have c6:=Aa ab;clear ac ab am;cases q with
    |false=>
     rw[Ae (by simp)]at f;subst f;rw[Ae (by simp)]at A⊢;clear A;go_upto_region 16 with fail;go_wp2_with (first|refine A5 rfl 121 _ _ rfl _ nz.cells.toArray rfl rfl 121 _ o.out.row (Cm rfl) (Cg rfl) (Am (NV.one _)) ?_);refine Aq (BX results158 _ _ w.heap.size nz rfl rfl (AC _ _ _ _ _ _ o.out.row)) rfl ?_;exact⟨Below.setRow o.out.bel (Ab _) _,rfl⟩
    |true=>
     rw[Ai rfl]at A⊢;have k1:=FJ A.i;have k2:=FJ (bv.out.at o.out.bel).i;have O:=Aa (Ni.str_beq A.b Z.out);generalize strOfNums (NE D)=s1 at k1 O;generalize strOfNums b=s2 at k2 O;clear A;by_cases F:NE D=b
     ·rw[Ai ⟨rfl,F⟩]at f;subst f;have ba:(!s1.toList==s2.toList)=false:=(by rw[O.out,AF F];rfl);clear F;go_upto_region 17 with fail;go_wp2_with (first|refine CC rfl _ rfl (w1.heap.size+1) rfl ⟨2,a',m,c',none,0,0,z,none,0,0⟩ ao.out.nb ?_|refine A5 rfl 121 _ _ rfl _ (NV.cells ⟨2,a',m,c',none,0,0,z,none,0,0⟩).toArray rfl rfl 121 _ o.out.row (Cm aa.out) (Cg aa.out) (Am (NV.one _)) ?_);refine Aq (BX results158 _ _ w.heap.size ⟨2,a',m,c',none,0,0,z,none,0,0⟩ aa.out rfl (AC _ _ _ _ _ _ o.out.row)) rfl ?_;exact⟨Below.setRow o.out.bel (Ab _) _,⟨2,a',m,c',none,0,0,z,none,0,0⟩,rfl,a6.out.go λk J hk=>⟨Bc _ _ _ _ (by omega),E8 J⟩⟩
     ·rw[Ae (λh=>F h.2)]at f;subst f;have ba:(!s1.toList==s2.toList)=true:=(by rw[O.out,Bi F];rfl);clear F;go_upto_region 16 with fail;go_wp2_with (first|refine A5 rfl 121 _ _ rfl _ nz.cells.toArray rfl rfl 121 _ o.out.row (Cm rfl) (Cg rfl) (Am (NV.one _)) ?_);refine Aq (BX results158 _ _ w.heap.size nz rfl rfl (AC _ _ _ _ _ _ o.out.row)) rfl ?_;exact⟨Below.setRow o.out.bel (Ab _) _,rfl⟩
   |true=>
    have V:=B.out;rw[Ai rfl]at V;obtain⟨D,ad⟩:∃D:PN,D=⟨1,pp,tt1.bs,r0,[]⟩:=⟨_,rfl⟩;rw[<-ad]at V;clear B;have B:=Aa V;have c2:=aj.out.ib.c2;rw[ax.out,H2.out]at c2;go_upto_region 9 with fail;rename_i K2 E dt;refine CX<|B9 65 (.slice a' m c') rfl (by kernel_rfl) (by kernel_rfl)<|B9 66 (.pointer (some ⟨w1.heap.size,2,none⟩)) rfl (by kernel_rfl) (by kernel_rfl)<|B9 67 (.slice (some ⟨g,off,none⟩) 2 y.ic) rfl (by kernel_rfl) (CQ rfl (by kernel_rfl) c2)<|B9 68 (.pointer (some ⟨g,off+(0+1)*3,none⟩)) rfl (by kernel_rfl) (ER (j:=0+1) (m:=2) (c:=y.ic) rfl (by kernel_rfl) (by kernel_rfl) (by omega))<|B9 69 (.pointer (some ⟨g,off+(0+1)*3+1,none⟩)) rfl (by kernel_rfl) (by kernel_rfl)<|B9 70 (.slice d.ba d.bn d.bc) rfl (by kernel_rfl) (FN rfl (by kernel_rfl) (AS aj.out.bel Y.out.c1))<|B9 71 (.agg (NV.cells ⟨1,a',m,c',d.ba,d.bn,d.bc,rz,none,0,0⟩).toArray) rfl (by kernel_rfl) (Eh 121 _ rfl [(0, .int .i64 1),(1, .slice a' m c'),(2, .slice d.ba d.bn d.bc)] (by kernel_rfl) _ (GP _ _ _ _ _ _))<|Fw rfl (by kernel_rfl) (D1 121 _ _ rfl (w1.heap.size+1) (NV.cells ⟨1,a',m,c',d.ba,d.bn,d.bc,rz,none,0,0⟩).toArray (by kernel_rfl) (by kernel_rfl) 121 _ aj.out.nb.row (Cm rfl) (SD aj.out.nb.l rfl) (Am (NV.one _)))<|E _ _ ?_;have ah:=Aa (aj.out.setRow ⟨1,a',m,c',d.ba,d.bn,d.bc,rz,none,0,0⟩ rfl);have az:Keep (λg=>w1.heap.size+2<=g) (λg=>w.heap.size<g) vT (vT.setRow (w1.heap.size+1) (NV.cells ⟨1,a',m,c',d.ba,d.bn,d.bc,rz,none,0,0⟩).toArray):=λk J hk=>⟨Bc _ _ _ _ (by omega),by have:=bz.out;omega⟩;have a7:AgK (OwnP (λb=>w.heap.size+1<=b) w1) w1 d.ba d.bn d.bc tt1.bs:=by obtain⟨l,bs,bo⟩:=tt1;exact Ik Y.out.li
    have M:=Aa (show NodeAt (λg=>w.heap.size<g) (vT.setRow (w1.heap.size+1) (NV.cells ⟨1,a',m,c',d.ba,d.bn,d.bc,rz,none,0,0⟩).toArray) ⟨1,a',m,c',d.ba,d.bn,d.bc,rz,none,0,0⟩ D from by
     subst ad;exact⟨rfl,bp.out.go az,a7.go (λk J hk=>⟨ah.out.bel.block k hk,by have:=J.1;omega⟩),Ff _ _,⟨rfl,A8 _,A8 _,A8 _,λ_=>⟨rfl,rfl⟩⟩,Jt _ _ _⟩)
    generalize vT.setRow (w1.heap.size+1) (NV.cells ⟨1,a',m,c',d.ba,d.bn,d.bc,rz,none,0,0⟩).toArray=vT at ah M⊢;clear V ad aj az a7 E c2 bp cd
    go_frame
    go_upto_region 14 with fail;have am:=Aa (GB _ ⟨1,a',m,c',d.ba,d.bn,d.bc,rz,none,0,0⟩ D vT M.out (λr bi _=>b3.out r.i (Rj Z.out HQ.out (by rw[a0.out,<-HM.out];first|exact .inl H2.out|exact .inr bc.out) r (by rw[B.out];exact bi))));have bf:=Aa M.out.okN;have aa:=Aa M.out.c.len;go_wp2_with (first|refine CC rfl _ rfl (w1.heap.size+1) rfl ⟨1,a',m,c',d.ba,d.bn,d.bc,rz,none,0,0⟩ ah.out.nb ?_);refine am.out.mono ?_;rintro e w5⟨⟨a5,m5,c5,rfl,A,-⟩,ac⟩;have ao:=Aa (ah.out.go ac);have o:=Aa (ay.out.go ao.out.bel);have a6:=Aa (M.out.go (Keep.below ac));have f:=a3.out;rw[Rh Z.out HQ.out (by rw[B.out];exact bf.out),B.out]at f;obtain⟨q,ab⟩:∃q,NR D=q:=⟨_,rfl⟩;rw[ab]at A f⊢;have c6:=Aa ab;clear ac ab am;cases q with
    |false=>
     rw[Ae (by simp)]at f;subst f;rw[Ae (by simp)]at A⊢;clear A;go_upto_region 16 with fail;go_wp2_with (first|refine A5 rfl 121 _ _ rfl _ nz.cells.toArray rfl rfl 121 _ o.out.row (Cm rfl) (Cg rfl) (Am (NV.one _)) ?_);refine Aq (BX results158 _ _ w.heap.size nz rfl rfl (AC _ _ _ _ _ _ o.out.row)) rfl ?_;exact⟨Below.setRow o.out.bel (Ab _) _,rfl⟩
    |true=>
     rw[Ai rfl]at A⊢;have k1:=FJ A.i;have k2:=FJ (bv.out.at o.out.bel).i;have O:=Aa (Ni.str_beq A.b Z.out);generalize strOfNums (NE D)=s1 at k1 O;generalize strOfNums b=s2 at k2 O;clear A;by_cases F:NE D=b
     ·rw[Ai ⟨rfl,F⟩]at f;subst f;have ba:(!s1.toList==s2.toList)=false:=(by rw[O.out,AF F];rfl);clear F;go_upto_region 17 with fail;go_wp2_with (first|refine CC rfl _ rfl (w1.heap.size+1) rfl ⟨1,a',m,c',d.ba,d.bn,d.bc,rz,none,0,0⟩ ao.out.nb ?_|refine A5 rfl 121 _ _ rfl _ (NV.cells ⟨1,a',m,c',d.ba,d.bn,d.bc,rz,none,0,0⟩).toArray rfl rfl 121 _ o.out.row (Cm aa.out) (Cg aa.out) (Am (NV.one _)) ?_);refine Aq (BX results158 _ _ w.heap.size ⟨1,a',m,c',d.ba,d.bn,d.bc,rz,none,0,0⟩ aa.out rfl (AC _ _ _ _ _ _ o.out.row)) rfl ?_;exact⟨Below.setRow o.out.bel (Ab _) _,⟨1,a',m,c',d.ba,d.bn,d.bc,rz,none,0,0⟩,rfl,a6.out.go λk J hk=>⟨Bc _ _ _ _ (by omega),E8 J⟩⟩
     ·rw[Ae (λh=>F h.2)]at f;subst f;have ba:(!s1.toList==s2.toList)=true:=(by rw[O.out,Bi F];rfl);clear F;go_upto_region 16 with fail;go_wp2_with (first|refine A5 rfl 121 _ _ rfl _ nz.cells.toArray rfl rfl 121 _ o.out.row (Cm rfl) (Cg rfl) (Am (NV.one _)) ?_);refine Aq (BX results158 _ _ w.heap.size nz rfl rfl (AC _ _ _ _ _ _ o.out.row)) rfl ?_;exact⟨Below.setRow o.out.bel (Ab _) _,rfl⟩
  ·by_cases bu:y.m=17
   ·have cp:its.length=17:=(by rw[<-HM.out,bu]);have c2:=bb.out.c2;rw[bu]at c2;obtain⟨g,off,d,A1⟩:=DG bm.out 16 (its.getD 16 t0) (by rw[List.getD,Ad (by omega)];rfl);rw[A1.ha]at c2;have ax:=Aa A1.ha;have Y:=Aa A1;have B:=Aa (show ddNode t=⟨3,[],(its.getD 16 t0).bs,r0,(its.take 16).map drefP⟩from by unfold ddNode;rw[a0.out,Ae (by omega)]);generalize its.getD 16 t0=tt1 at Y B;have bc:=Aa bu;have cn:=Aa cp;clear cp A1 bu h2 bw;go_upto_region 4 with fail;rename_i KK E;refine CX<|B9 33 (.pointer (some ⟨w1.heap.size,2,none⟩)) rfl (by kernel_rfl) (by kernel_rfl)<|B9 34 (.slice (some ⟨g,off,none⟩) 17 y.ic) rfl (by kernel_rfl) (CQ rfl (by kernel_rfl) c2)<|B9 35 (.pointer (some ⟨w1.heap.size,2,none⟩)) rfl (by kernel_rfl) (by kernel_rfl)<|B9 36 (.slice (some ⟨g,off,none⟩) 17 y.ic) rfl (by kernel_rfl) (CQ rfl (by kernel_rfl) c2)<|B9 37 (.int .i64 17) rfl (by kernel_rfl) (by kernel_rfl)<|B9 38 (.int .i64 16) rfl (by kernel_rfl) (by kernel_rfl)<|B9 39 (.pointer (some ⟨g,off+(0+16)*3,none⟩)) rfl (by kernel_rfl) (ER (j:=0+16) (m:=17) (c:=y.ic) rfl (by kernel_rfl) (by kernel_rfl) (by omega))<|B9 40 (.pointer (some ⟨g,off+(0+16)*3+1,none⟩)) rfl (by kernel_rfl) (by kernel_rfl)<|B9 41 (.slice d.ba d.bn d.bc) rfl (by kernel_rfl) (FN rfl (by kernel_rfl) (AS a8.out Y.out.c1))<|B9 42 (.agg (NV.cells ⟨3,none,0,0,d.ba,d.bn,d.bc,rz,none,0,0⟩).toArray) rfl (by kernel_rfl) (Eh 121 _ rfl [(0, .int .i64 3),(2, .slice d.ba d.bn d.bc)] (by kernel_rfl) _ (Nj _ _ _))<|NU 6 (.pointer (some ⟨w1.heap.size+1,0,none⟩)) rfl (by kernel_rfl) ((Ip rfl).trans (by rw[al.out])) ?_;refine Fw rfl (by kernel_rfl) (D1 121 _ _ rfl (w1.heap.size+1) (NV.cells ⟨3,none,0,0,d.ba,d.bn,d.bc,rz,none,0,0⟩).toArray (by kernel_rfl) (by kernel_rfl) 121 nz.cells.toArray (by rw[<-al.out];exact Ak _ _) (Cm rfl) (Cg rfl) (Am (NV.one _)))<|E _ _ ?_
    go_frame
    refine gen_w (p:=λv=>Code.wp _ _ _ _ v) (q:=λv=>De w1 v y ⟨3,none,0,0,d.ba,d.bn,d.bc,rz,none,0,0⟩) (by
     have e:=De.setRow (w1:=w1) (v:=v2.alloc (.cells nz.cells.toArray 121)) (y:=y) (x:=nz) ⟨bb.out.alloc _,⟨by rw[<-al.out];exact Ak _ _,rfl⟩,below_go a8.out (below_new _ _),by simp[al.out]⟩ ⟨3,none,0,0,d.ba,d.bn,d.bc,rz,none,0,0⟩ rfl;exact e) ?_
    intro v4 D4;have af:=Aa D4;clear D4 E c2;have c2:=af.out.ib.c2;rw[ax.out,bc.out]at c2;go_wp2_with fail
    go_loopw [10] (λb6 u=>∃(j:Nat)(H:Option Addr)(kn I:Nat),j<=16/\b6= .int .i64 j/\De w1 u y ⟨3,none,0,0,d.ba,d.bn,d.bc,rz,H,kn,I⟩/\SoR (w1.heap.size+2) u (.slice H kn I) ((its.take j).map drefP)) (λb6 _=>16-(intOf b6).toNat)
    case atStart=>exact⟨0,none,0,0,by omega,rfl,af.out,SA _ _⟩
    case round=>
     obtain⟨j,H,kn,I,hj,rfl,hE,dc⟩:=hrel;have HE:=Aa hE;have b0:=Aa dc;clear hE dc af c2;by_cases dl:j<16
     ·have dm:(j:Int)<16:=(by omega);obtain⟨tj,cb⟩:∃tj,its[j]?=some tj:=⟨_,Ad (by rw[cn.out];omega)⟩;obtain⟨g',dp,C,AJ⟩:=DG bm.out j tj cb;have ha:=AJ.ha;rw[ax.out]at ha;cases ha;rw[A6]at AJ;have a9:=Aa AJ;clear AJ;have da:=Aa cb;clear cb;go_upto_region 13 with fail;rename_i KK E;refine Cj (S:=λv'=>B1 w1.heap.size v' y/\Below w1.heap.size w1 v') (by kernel_rfl) ⟨⟨HE.out.ib.c0,HE.out.ib.c1,HE.out.ib.c2⟩,HE.out.bel.drew⟩ (λG=>?_);have ai:=HE.out.drew;have di:∀v',B1 w1.heap.size v' y->v'.cell? ⟨w1.heap.size,2,none⟩=some (.slice (some ⟨g,off,none⟩) 17 y.ic):=λv' hv=>by have:=hv.c2;rwa [ax.out,bc.out]at this
      refine Br 0 76 (.pointer (some ⟨w1.heap.size+1,37,none⟩)) rfl rfl (by kernel_rfl) (by kernel_rfl) (by kernel_rfl) (λ_ _ _ h=>h) (by kernel_rfl) (λv _=>by kernel_rfl) G<|Br 2 78 (.pointer (some ⟨w1.heap.size,2,none⟩)) rfl rfl (by kernel_rfl) (by kernel_rfl) (by kernel_rfl) (λ_ _ _ h=>h) (by kernel_rfl) (λv _=>by kernel_rfl) G<|Br 3 79 (.slice (some ⟨g,off,none⟩) 17 y.ic) rfl rfl (by kernel_rfl) (by kernel_rfl) (by kernel_rfl) (λ_ _ _ h=>h) (by kernel_rfl) (λv' hv=>CQ rfl (by kernel_rfl) (di v' hv.1)) G<|Br 4 80 (.int .i64 j) rfl rfl (by kernel_rfl) (by kernel_rfl) (by kernel_rfl) (λ_ _ _ h=>h) (by kernel_rfl) (λv _=>by kernel_rfl) G<|Br 5 81 (.pointer (some ⟨g,off+j*3,none⟩)) rfl rfl (by kernel_rfl) (by kernel_rfl) (by kernel_rfl) (λ_ _ _ h=>h) (by kernel_rfl) (λv' _=>ER (j:=j) (m:=17) (c:=y.ic) rfl (by kernel_rfl) (by kernel_rfl) (by omega)) G<|Br 6 82 (.agg #[.bool C.l, .slice C.ba C.bn C.bc, .slice C.ia C.m C.ic]) rfl rfl (by kernel_rfl) (by kernel_rfl) (by kernel_rfl) (λ_ _ _ h=>h) (by kernel_rfl) (λv' hv=>GN rfl (by kernel_rfl) (AS hv.2 a9.out.c0) (AS hv.2 a9.out.c1) (AS hv.2 a9.out.c2)) G<|AD (rs:=[1,7]) (by kernel_rfl) (by simp) ?_;refine CE 1 77 (.slice H kn I) rfl rfl (by kernel_rfl) (J6 rfl (by kernel_rfl) ai.nb.c37) G ?_ ?_
      ·refine AD (rs:=[7]) (by kernel_rfl) (by simp) ?_;refine Es 7 83 rfl rfl (by kernel_rfl) 169 #[.agg #[.bool C.l, .slice C.ba C.bn C.bc, .slice C.ia C.m C.ic]] (by kernel_rfl) (R:=λval w'=>Below wr.drew.heap.size wr.drew w'/\∃z:RV,val= .agg z.cells.toArray/\RefAt (λb=>wr.drew.heap.size<=b) w' z (drefP tj)) ((Mb tj C wr.drew (Cl G.2 _ _ (CS _ _ a9.out.li))).mono (λe w' h=>GC h)) (λval w' h=>⟨G.1.go h.1,below_go G.2 h.1⟩) ?_ AB;rintro val W⟨L,z,rfl,N⟩;have bh:B1 w1.heap.size W y/\Below w1.heap.size w1 W:=⟨G.1.go L,below_go G.2 L⟩;have aw:=ai.go L;obtain⟨v',w3,ar,ak,a2⟩:=KS ai.sz (b0.out.all (Ac _ _).drew) L N (by rw[AQ,Ap];omega) 119;have Q:De w1 (W.alloc (.cells z.cells.toArray 118)) y ⟨3,none,0,0,d.ba,d.bn,d.bc,rz,H,kn,I⟩:=aw.go (below_new _ _);have s:=ai.above a2;obtain⟨P,U,ap,-⟩:=ak.kids;obtain⟨K,a1⟩:∃K,(((its.take j).map drefP)++[drefP tj]).length=K:=⟨_,rfl⟩;rw[a1]at ap;have T:=s.put P K U;have aq:SoR (w1.heap.size+2) (w3.setCell ⟨w1.heap.size+1,37,none⟩ v') v' ((its.take (j+1)).map drefP):=(by rw[Nk da.out];exact ak.keep λb hb _=>AA _ _ _ _ (by show b≠w1.heap.size+1;omega));subst ap;refine AD (rs:=[8]) (by kernel_rfl) (by simp) ?_;refine CE 8 84 (.slice (some ⟨W.heap.size,0,none⟩) 1 1) rfl rfl (by kernel_rfl) (Ka rfl z N.len (by kernel_rfl)) ⟨Q.ib,Q.bel⟩ ?_ AB;refine AD (rs:=[9]) (by kernel_rfl) (by simp) ?_;refine CE 9 85 (.slice P K U) rfl rfl (by kernel_rfl) (Rg rfl (.slice H kn I) (.slice (some ⟨W.heap.size,0,none⟩) 1 1) (by kernel_rfl) (by kernel_rfl) ar) ⟨s.ib,s.bel⟩ ?_ AB;refine Br 10 86 (.pointer (some ⟨w1.heap.size+1,37,none⟩)) rfl rfl (by kernel_rfl) (by kernel_rfl) (by kernel_rfl) (λ_ _ _ h=>h) (by kernel_rfl) (λv _=>by kernel_rfl) ⟨s.ib,s.bel⟩<|AD (rs:=[11]) (by kernel_rfl) (by simp) ?_;refine DF 11 rfl rfl (by kernel_rfl) (IM rfl (w1.heap.size+1) P K U _ (by kernel_rfl) (by kernel_rfl) s.nb.c37 s.nb.fz) ⟨T.ib,T.bel⟩ ?_ AB;refine Cq (by kernel_rfl) ?_ _;refine E _ _ ?_;have bg:=Aa T;have a4:=Aa aq;clear a1 T aq s Q aw ai G bh ak a2 ar N L E
       go_frame
       go_wp2_with fail;exact⟨⟨j+1,P,K,U,by omega,by simp,bg.out,a4.out⟩,by simp[intOf];omega⟩
      refine Es 7 83 rfl rfl (by kernel_rfl) 169 #[.agg #[.bool C.l, .slice C.ba C.bn C.bc, .slice C.ia C.m C.ic]] (by kernel_rfl) (R:=λval w'=>Below wr.drew.heap.size wr.drew w'/\∃z:RV,val= .agg z.cells.toArray/\RefAt (λb=>wr.drew.heap.size<=b) w' z (drefP tj)) ((Mb tj C wr.drew (Cl G.2 _ _ (CS _ _ a9.out.li))).mono (λe w' h=>GC h)) (λval w' h=>⟨G.1.go h.1,below_go G.2 h.1⟩) ?_ AB;rintro val W⟨L,z,rfl,N⟩;have bh:B1 w1.heap.size W y/\Below w1.heap.size w1 W:=⟨G.1.go L,below_go G.2 L⟩;have aw:=ai.go L;obtain⟨v',w3,ar,ak,a2⟩:=KS ai.sz (b0.out.all (Ac _ _).drew) L N (by rw[AQ,Ap];omega) 119;have Q:De w1 (W.alloc (.cells z.cells.toArray 118)) y ⟨3,none,0,0,d.ba,d.bn,d.bc,rz,H,kn,I⟩:=aw.go (below_new _ _);have s:=ai.above a2;obtain⟨P,U,ap,-⟩:=ak.kids;obtain⟨K,a1⟩:∃K,(((its.take j).map drefP)++[drefP tj]).length=K:=⟨_,rfl⟩;rw[a1]at ap;have T:=s.put P K U;have aq:SoR (w1.heap.size+2) (w3.setCell ⟨w1.heap.size+1,37,none⟩ v') v' ((its.take (j+1)).map drefP):=(by rw[Nk da.out];exact ak.keep λb hb _=>AA _ _ _ _ (by show b≠w1.heap.size+1;omega));subst ap;refine AD (rs:=[1,8]) (by kernel_rfl) (by simp) ?_;refine CE 1 77 (.slice H kn I) rfl rfl (by kernel_rfl) (J6 rfl (by kernel_rfl) aw.nb.c37) bh ?_ ?_
      ·refine AD (rs:=[8]) (by kernel_rfl) (by simp) ?_;refine CE 8 84 (.slice (some ⟨W.heap.size,0,none⟩) 1 1) rfl rfl (by kernel_rfl) (Ka rfl z N.len (by kernel_rfl)) ⟨Q.ib,Q.bel⟩ ?_ AB;refine AD (rs:=[9]) (by kernel_rfl) (by simp) ?_;refine CE 9 85 (.slice P K U) rfl rfl (by kernel_rfl) (Rg rfl (.slice H kn I) (.slice (some ⟨W.heap.size,0,none⟩) 1 1) (by kernel_rfl) (by kernel_rfl) ar) ⟨s.ib,s.bel⟩ ?_ AB;refine Br 10 86 (.pointer (some ⟨w1.heap.size+1,37,none⟩)) rfl rfl (by kernel_rfl) (by kernel_rfl) (by kernel_rfl) (λ_ _ _ h=>h) (by kernel_rfl) (λv _=>by kernel_rfl) ⟨s.ib,s.bel⟩<|AD (rs:=[11]) (by kernel_rfl) (by simp) ?_;refine DF 11 rfl rfl (by kernel_rfl) (IM rfl (w1.heap.size+1) P K U _ (by kernel_rfl) (by kernel_rfl) s.nb.c37 s.nb.fz) ⟨T.ib,T.bel⟩ ?_ AB;refine Cq (by kernel_rfl) ?_ _;refine E _ _ ?_;have bg:=Aa T;have a4:=Aa aq;clear a1 T aq s Q aw ai G bh ak a2 ar N L E
       go_frame
       go_wp2_with fail;exact⟨⟨j+1,P,K,U,by omega,by simp,bg.out,a4.out⟩,by simp[intOf];omega⟩
      refine CE 8 84 (.slice (some ⟨W.heap.size,0,none⟩) 1 1) rfl rfl (by kernel_rfl) (Ka rfl z N.len (by kernel_rfl)) ⟨Q.ib,Q.bel⟩ ?_ AB;refine AD (rs:=[1]) (by kernel_rfl) (by simp) ?_;refine CE 1 77 (.slice H kn I) rfl rfl (by kernel_rfl) (J6 rfl (by kernel_rfl) Q.nb.c37) ⟨Q.ib,Q.bel⟩ ?_ AB;refine AD (rs:=[9]) (by kernel_rfl) (by simp) ?_;refine CE 9 85 (.slice P K U) rfl rfl (by kernel_rfl) (Rg rfl (.slice H kn I) (.slice (some ⟨W.heap.size,0,none⟩) 1 1) (by kernel_rfl) (by kernel_rfl) ar) ⟨s.ib,s.bel⟩ ?_ AB;refine Br 10 86 (.pointer (some ⟨w1.heap.size+1,37,none⟩)) rfl rfl (by kernel_rfl) (by kernel_rfl) (by kernel_rfl) (λ_ _ _ h=>h) (by kernel_rfl) (λv _=>by kernel_rfl) ⟨s.ib,s.bel⟩<|AD (rs:=[11]) (by kernel_rfl) (by simp) ?_;refine DF 11 rfl rfl (by kernel_rfl) (IM rfl (w1.heap.size+1) P K U _ (by kernel_rfl) (by kernel_rfl) s.nb.c37 s.nb.fz) ⟨T.ib,T.bel⟩ ?_ AB;refine Cq (by kernel_rfl) ?_ _;refine E _ _ ?_;have bg:=Aa T;have a4:=Aa aq;clear a1 T aq s Q aw ai G bh ak a2 ar N L E
      go_frame
      go_wp2_with fail;exact⟨⟨j+1,P,K,U,by omega,by simp,bg.out,a4.out⟩,by simp[intOf];omega⟩
     ·have dm:¬(j:Int)<16:=(by omega);have dh:j=16:=(by omega);subst dh;obtain⟨P,U,ap,ch,cw,cc,de⟩:=b0.out.kids;have ci:((its.take 16).map drefP).length=16:=(by rw[AQ,Ap,cn.out];rfl);rw[ci]at ap ch cc;cases ap;obtain⟨D,ad⟩:∃D:PN,D=⟨3,[],tt1.bs,r0,(its.take 16).map drefP⟩:=⟨_,rfl⟩;have V:=B.out;rw[<-ad]at V;clear B;have B:=Aa V;have bz:=Aa ay.out.sz;have a7:AgK (OwnP (λb=>w.heap.size+1<=b) w1) w1 d.ba d.bn d.bc tt1.bs:=by obtain⟨l,bs,bo⟩:=tt1;exact Ik Y.out.li
      have M:=Aa (show NodeAt (λg=>w.heap.size<g) wr ⟨3,none,0,0,d.ba,d.bn,d.bc,rz,H,16,I⟩ D from by
       subst ad;exact⟨rfl,Fx _ _,a7.go (λk J hk=>⟨HE.out.bel.block k hk,by have:=J.1;omega⟩),Ff _ _,⟨ci.symm,ch,cw,(by show(16:Nat)<=_;omega),λh=>(by have:=(cc h).1;omega)⟩,de.go (λk J hk=>⟨rfl,by have:=bz.out;omega⟩)⟩)
      have ah:=HE;have dv:True:=trivial;clear ch cw cc de ci V ad a7 HE b0;go_upto_region 14 with fail;have am:=Aa (GB _ ⟨3,none,0,0,d.ba,d.bn,d.bc,rz,H,16,I⟩ D wr M.out (λr bi _=>b3.out r.i (Rj Z.out HQ.out (by rw[a0.out,<-HM.out];first|exact .inl H2.out|exact .inr bc.out) r (by rw[B.out];exact bi))));have bf:=Aa M.out.okN;have aa:=Aa M.out.c.len;go_wp2_with (first|refine CC rfl _ rfl (w1.heap.size+1) rfl ⟨3,none,0,0,d.ba,d.bn,d.bc,rz,H,16,I⟩ ah.out.nb ?_);refine am.out.mono ?_;rintro e w5⟨⟨a5,m5,c5,rfl,A,-⟩,ac⟩;have ao:=Aa (ah.out.go ac);have o:=Aa (ay.out.go ao.out.bel);have a6:=Aa (M.out.go (Keep.below ac));have f:=a3.out;rw[Rh Z.out HQ.out (by rw[B.out];exact bf.out),B.out]at f;obtain⟨q,ab⟩:∃q,NR D=q:=⟨_,rfl⟩;rw[ab]at A f⊢;have c6:=Aa ab;clear ac ab am;cases q with
      |false=>
       rw[Ae (by simp)]at f;subst f;rw[Ae (by simp)]at A⊢;clear A;go_upto_region 16 with fail;go_wp2_with (first|refine A5 rfl 121 _ _ rfl _ nz.cells.toArray rfl rfl 121 _ o.out.row (Cm rfl) (Cg rfl) (Am (NV.one _)) ?_);refine Aq (BX results158 _ _ w.heap.size nz rfl rfl (AC _ _ _ _ _ _ o.out.row)) rfl ?_;exact⟨Below.setRow o.out.bel (Ab _) _,rfl⟩
      |true=>
       rw[Ai rfl]at A⊢;have k1:=FJ A.i;have k2:=FJ (bv.out.at o.out.bel).i;have O:=Aa (Ni.str_beq A.b Z.out);generalize strOfNums (NE D)=s1 at k1 O;generalize strOfNums b=s2 at k2 O;clear A;by_cases F:NE D=b
       ·rw[Ai ⟨rfl,F⟩]at f;subst f;have ba:(!s1.toList==s2.toList)=false:=(by rw[O.out,AF F];rfl);clear F;go_upto_region 17 with fail;go_wp2_with (first|refine CC rfl _ rfl (w1.heap.size+1) rfl ⟨3,none,0,0,d.ba,d.bn,d.bc,rz,H,16,I⟩ ao.out.nb ?_|refine A5 rfl 121 _ _ rfl _ (NV.cells ⟨3,none,0,0,d.ba,d.bn,d.bc,rz,H,16,I⟩).toArray rfl rfl 121 _ o.out.row (Cm aa.out) (Cg aa.out) (Am (NV.one _)) ?_);refine Aq (BX results158 _ _ w.heap.size ⟨3,none,0,0,d.ba,d.bn,d.bc,rz,H,16,I⟩ aa.out rfl (AC _ _ _ _ _ _ o.out.row)) rfl ?_;exact⟨Below.setRow o.out.bel (Ab _) _,⟨3,none,0,0,d.ba,d.bn,d.bc,rz,H,16,I⟩,rfl,a6.out.go λk J hk=>⟨Bc _ _ _ _ (by omega),E8 J⟩⟩
       ·rw[Ae (λh=>F h.2)]at f;subst f;have ba:(!s1.toList==s2.toList)=true:=(by rw[O.out,Bi F];rfl);clear F;go_upto_region 16 with fail;go_wp2_with (first|refine A5 rfl 121 _ _ rfl _ nz.cells.toArray rfl rfl 121 _ o.out.row (Cm rfl) (Cg rfl) (Am (NV.one _)) ?_);refine Aq (BX results158 _ _ w.heap.size nz rfl rfl (AC _ _ _ _ _ _ o.out.row)) rfl ?_;exact⟨Below.setRow o.out.bel (Ab _) _,rfl⟩
   ·have f:=a3.out;rw[Xby Z.out HQ.out (by rw[a0.out,<-HM.out];omega)]at f;subst f;have c2:=bb.out.c2;have e2:((y.m:Int) !=2)=true:=(by rw[BU];omega);have dw:((y.m:Int) !=17)=true:=(by rw[BU];omega);have av:=Aa (ay.out.go a8.out);go_wp2_with (first|refine A5 rfl 121 _ _ rfl _ nz.cells.toArray rfl rfl 121 _ av.out.row (Cm rfl) (Cg rfl) (Am (NV.one _)) ?_);refine Aq (BX results158 _ _ w.heap.size nz rfl rfl (AC _ _ _ _ _ _ av.out.row)) rfl ?_;exact⟨Below.setRow av.out.bel (Ab _) _,rfl⟩
theorem PH:∀(L:Nat)(b:τ),b.length<=L->DDSaid b:=by
 intro L
 induction L using Nat.strongRecOn with
 |_ L a=>
  intro b d;exact Ou b λi c=>a i.length (by omega) i (Ab _)
theorem K6(b:τ):DDSaid b:=PH b.length b (Ab _)
theorem rright_any(K:Θ)(x:NV)(n:PN)(w:Γ)(h:NodeAt K w x n):Calls prog 90 #[γ x.cells.toArray] w λe w'=>e=ω (β (NR n))/\Λ w w':=GX K x n w h λr _ _=>K6 r.i
theorem Ov(K:Θ)(x:NV)(n:PN)(w:Γ)(h:NodeAt K w x n):Calls prog 66 #[γ x.cells.toArray] w (EEPost w n):=GB K x n w h λr _ _=>K6 r.i
end
section
open Tr
variable {w w' : World} {a : Option Addr} {n c g gW base gK j : Nat} {K X : Nat → Prop} {k : Nat → Tr} {vs : Nat → Value} {vN vN' : Value} {y : RV} {ns : List (List Int)} {ys : Nat → RV}
theorem Xbz{y:NV}{t:Tr}(d:t≠no)(h:NodeAt (λ_=>True) w y (nodeP t)):
 κ 66 #[γ y.cells.toArray] w λu w'=>(∃a m c z,u=θ #[σ a m c,ι z]/\Sk (λ_=>True) w' a m c (encT t)/\m<=65540)/\Bl w w':=
 (Ov _ y (nodeP t) w h).mono (λe w'⟨⟨a,m,c,f,i,_⟩,g⟩=>⟨_,f,⟨a,m,c,_,rfl,⟨by rw[DU d];unfold NEP;split<;>simp_all,λ_ _ _=>trivial⟩,by have b:=Sy h.okN;have j:=i.l;unfold NEP at b;split at b<;>simp_all⟩,g⟩)
theorem Kb{t:Tr}(e:t≠no)(g:κ 67 #[σ a n c] w λu w'=>RN7 w t u w'):
 κ 39 #[σ a n c] w λu w'=>RB7 w t u w':=by
 have b:=Bl.refl w;refine Ck func39 12<|Hc 8 (R:=RN7 w t) (g) ?_;rintro _ k⟨⟨y,rfl,l⟩,f⟩;refine Hc 0 (R:=λu w'=>(∃a m c z,u=θ #[σ a m c,ι z]/\Sk (λ_=>True) w' a m c (encT t)/\m<=65540)/\Bl k w') (Xbz e l) ?_;rintro _ p⟨⟨d,m2,c2,o,rfl,h,j⟩,i⟩;replace b:=(b.go f).go i;exact Hr 14 (σ d m2 c2) ⟨_,rfl,⟨d,m2,c2,rfl,h,j⟩,b⟩
theorem sc_other(b k:Nat)(a:k≠b):∀(vs:List Δ)(o:Nat)(w:Γ),(w.setCells b o vs).heap[k]?=w.heap[k]?
 |[],_,_=>rfl
 |v::r,o,w=>(sc_other b k a r (o+1) _).trans (AA _ _ _ _ a)
theorem sc_same(b:Nat):∀(vs:List Δ)(o:Nat)(w:Γ),(w.setCells b o vs).os=w.os/\(w.setCells b o vs).tape=w.tape/\(w.setCells b o vs).output=w.output/\(w.setCells b o vs).heap.size=w.heap.size
 |[],_,_=>⟨rfl,rfl,rfl,rfl⟩
 |v::r,o,w=>by
  obtain⟨d,a,e,c⟩:=sc_same b r (o+1) (w.setCell ⟨b,o,none⟩ v);exact⟨d,a,e,c.trans (by simp)⟩
theorem sc_row(b:Nat)(t:TypeId):∀(vs:List Δ)(o:Nat)(w:Γ)(cur:Ξ),w.heap[b]?=some (.cells cur t (0,0))->∃a:Ξ,(w.setCells b o vs).heap[b]?=some (.cells a t (0,0))/\a.size=cur.size
 |[],_,_,cur,h=>⟨cur,h,rfl⟩
 |v::r,o,w,cur,h=>by
  obtain⟨c',d,c⟩:=sc_row b t r (o+1) (w.setCell ⟨b,o,none⟩ v) _ (AU w b o cur t v h);exact⟨c',d,by rw[c];simp⟩
structure St(w w':Γ)(g:Nat):Prop where
 other:∀k,k≠g->w'.heap[k]?=w.heap[k]?
 os:w'.os=w.os
 tape:w'.tape=w.tape
 output:w'.output=w.output
 size:w'.heap.size=w.heap.size
theorem St.of(w:Γ)(g o:Nat)(vs:List Δ):St w (w.setCells g o vs) g:=by
 obtain⟨a,d,c,e⟩:=sc_same g vs o w;exact⟨λk b=>sc_other g k b vs o w,a,d,c,e⟩
theorem Sk.st{bs:τ}(h:Sk K w a n c bs)(f:St w w' g)(m:∀b,K b->b≠g):Sk K w' a n c bs:=by
 refine⟨⟨?_,h.ag.nil,h.ag.l,h.ag.b⟩,h.k⟩;rcases h.ag.i with d|⟨gb,off,d,k,e,l,o,p⟩
 ·exact .inl d
 ·exact .inr ⟨gb,off,d,k,e,l,o,λj i=>(Av (show w'.heap[gb]?=w.heap[gb]? from f.other gb (m gb (h.k _ d e)))).trans (p j i)⟩
theorem TA.st(j:St w w' g)(l:∀b,K b->b≠g):∀{t:Tr}{v:Δ},TA K w t v->TA K w' t v:=by
 intro t
 induction t with
 |no=>intro v h;exact h
 |leaf p x=>rintro v⟨a,n,c,a',n',c',e,d,f,o⟩;exact⟨a,n,c,a',n',c',e,d.st j l,f.st j l,o⟩
 |ext p t m=>rintro v⟨a,n,c,u,e,d,f⟩;exact⟨a,n,c,u,e,d.st j l,m f⟩
 |br k x m=>rintro v⟨vs,a,n,c,e,d,f,o⟩;exact⟨vs,a,n,c,e,λi q=>m i (d i q),f.st j l,o⟩
theorem TK.st(h:TK K w k vs)(c:St w w' g)(a:∀b,K b->b≠g):TK K w' k vs:=λi d=>(h i d).st c a
theorem TA.aged:∀{t:Tr}{v:Δ},TA (KW gW vN X) w t v->TA (KW gW vN (λb=>b<w.heap.size)) w t v:=by
 intro t
 induction t with
 |no=>intro v h;exact h
 |leaf p x=>rintro v⟨a,n,c,a',n',c',e,d,f,j⟩;exact⟨a,n,c,a',n',c',e,d.aged,f.aged,j⟩
 |ext p t g=>rintro v⟨a,n,c,u,e,d,f⟩;exact⟨a,n,c,u,e,d.aged,g f⟩
 |br k x g=>rintro v⟨vs,a,n,c,e,d,f,j⟩;exact⟨vs,a,n,c,e,λi l=>g i (d i l),f.aged,j⟩
theorem TK.aged(h:TK (KW gW vN X) w k vs):TK (KW gW vN (λb=>b<w.heap.size)) w k vs:=λi a=>(h i a).aged
theorem Rf.st{r:PR}(h:Rf K w y r)(d:St w w' g)(c:∀b,K b->b≠g):Rf K w' y r:=⟨h.at'.go (λb a _=>⟨d.other b (c b a),a⟩)⟩
theorem Rw.st{g':Nat}{cells:Ξ}{T:TypeId}(h:Rw g w cells T)(b:St w w' g')(a:g≠g'):Rw g w' cells T:=(b.other g a).trans h
theorem Wt.st{old:Ξ}{T:TypeId}(h:Wt w gW base vN X ns)(i:w.heap[g]?=some (.cells old T (0,0)))(A:T≠32)(p:T≠77)(v:∀b,X b->b≠g)(f:St w w' g):Wt w' gW base vN X ns:=by
 obtain⟨l,⟨z,o⟩,k⟩:=h.o;have m:gW≠g:=by
  rintro rfl;have:=h.r;rw[Rw,i]at this;simp at this;exact p this.2
 refine⟨(f.other _ m).trans h.r,⟨l,⟨z,?_⟩,k.1,λj u r=>?_⟩,h.b⟩
 case refine_2=>
  obtain⟨a,n,c,e,t⟩:=k.2 j u r;exact⟨a,n,c,e,t.st f (λb s=>v b s.2.2)⟩
 rcases o with q|⟨g',cap,cur,x,B,d,y⟩
 ·exact .inl q
 ·refine .inr ⟨g',cap,cur,x,B,(f.other _ ?_).trans d,y⟩;rintro rfl;rw[i]at d;simp at d;exact A d.2
theorem Wg.st{v v':Γ}(h:Wg w v gW vN vN')(a:St v v' g)(e:w.heap.size<=g):Wg w v' gW vN vN':=
 ⟨a.os.trans h.os,a.tape.trans h.tape,a.output.trans h.output,by rw[a.size];exact h.size,λk c b d=>(a.other k (by omega)).trans (h.block k c b d),h.own⟩
def kz:Ξ:=(Array.range 544).map (λx=>rz.cells.toArray[x%34]!)
def updR(ys:Nat->RV)(i:Nat)(y:RV):Nat->RV:=λj=>if j=i then y else ys j
structure Kr(gK:Nat)(w:Γ)(ys:Nat->RV):Prop where
 row:∃cur:Ξ,w.heap[gK]?=some (.cells cur 118 (0,0))/\cur.size=544
 rng:∀i,i<16->w.rangeAt gK (0+i*34) (ys i).cells
 ln:∀i,(ys i).d.length=32
theorem Kr.same(h:Kr gK w ys)(e:w'.heap[gK]?=w.heap[gK]?):Kr gK w' ys:=by
 obtain⟨cur,a,d⟩:=h.row;exact⟨⟨cur,e.trans a,d⟩,λi b m v c=>(Av (show w'.heap[gK]?=w.heap[gK]? from e)).trans (h.rng i b m v c),h.ln⟩
theorem Kr.go(h:Kr gK w ys)(b:Λ w w'):Kr gK w' ys:=by
 obtain⟨cur,a,c⟩:=h.row;exact h.same (b.block gK (lt_of_get a))
theorem Kr.wg(h:Kr gK w ys)(c:Wg w w' gW vN vN')(b:Wt w gW base vN X ns):Kr gK w' ys:=by
 obtain⟨cur,a,d⟩:=h.row;exact h.same ((c.row b a (by decide) (by decide)).trans a.symm)
theorem Kr.lt(h:Kr gK w ys):gK<w.heap.size:=by
 obtain⟨cur,a,b⟩:=h.row;exact lt_of_get a
theorem Kr.there(h:Kr gK w ys)(b:j<16):w.there gK (0+j*34) 34:=by
 obtain⟨cur,a,d⟩:=h.row;intro m c;refine⟨?_,AN _ _ _ _ _ a⟩;rw[Aj _ _ _ _ _ _ a,Bw (by omega)];rfl
theorem Kr.put(h:Kr gK w ys)(c:j<16)(a:y.d.length=32):Kr gK (w.setCells gK (0+j*34) y.cells) (updR ys j y):=by
 have k:=h.there c;obtain⟨cur,g,d⟩:=h.row;obtain⟨b,l,f⟩:=sc_row gK 118 y.cells (0+j*34) w cur g;refine⟨⟨b,l,f.trans d⟩,λi m=>?_,λi=>?_⟩
 ·unfold updR;by_cases e:i=j
  ·rw[Ai e,e];exact World.rangeAt_setCells_same w gK (0+j*34) y.cells (by rw[RV.len a];exact k)
  ·rw[Ae e];refine World.rangeAt_setCells_apart (h.rng i m) gK (0+j*34) y.cells (.inr ?_);rw[RV.len (h.ln i),RV.len a];omega
 ·unfold updR;split
  ·exact a
  ·exact h.ln i
theorem Kr.new(h:New w w' gK kz 118):Kr gK w' (λ_=>rz):=by
 refine⟨⟨kz,h.row,by simp[kz]⟩,λi c m v a=>?_,λ_=>rfl⟩;have b:m<34:=by have:=(Ar.1 a).1;rw[RV.len (x:=rz) rfl]at this;exact this
 rw[Aj _ _ _ _ _ _ h.row];unfold kz;rw[Array.getElem?_map,Bw (by rw[Array.size_range];omega)];rw[Array.getElem_range,B7];rw[show(0+i*34+m)%34=m from by omega];rw[<-a,EV _ _ (by rw[Ba,RV.len (x:=rz) rfl];exact b)];simp
theorem ol_storeM{ρ:Φ}{w:Γ}{o:Oper}(x z:Operand){gK j:Nat}{ys:Nat->RV}{y:RV}(h:Kr gK w ys)(b:j<16)(a:y.d.length=32)(c:o.op= .store 118 x z)(d:ρ x=ψ gK (0+j*34))(e:ρ z=γ y.cells.toArray):
 (execOp ρ o).run prog w= .ok .skip (w.setCells gK (0+j*34) y.cells):=by
 have:=run_storeAt_mid (P:=prog) w gK (0+j*34) 118 y.cells.toArray (by rw[r_size a];exact h.there b) (by rw[EW,r_size a]) (r_ones y);unfold execOp;simp only[c,d,e,AO,this,A4,AV]
end
end Go.Proofs.YtkdlocloepbmcaaGreat
