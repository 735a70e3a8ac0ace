/- A tree and a list in order that say the same; two ways to one tree. -/
import Derived.Test.YtkdlocloepbmcaaGreatG09
import Derived.Maps.AppendAt
set_option linter.unusedVariables false
set_option linter.unusedSimpArgs false
set_option maxRecDepth 100000
set_option maxHeartbeats 2000000
open Go.Proofs.Tryz Go.RowKit
namespace Go.Proofs.YtkdlocloepbmcaaGreat
section
open Tr
open Ni (lessP)
variable {k x q : List Int}
structure Rel(t:Tr)(l:PList):Prop where
 s:SrtP l
 m:∀k x,(k,x)∈l↔(Byk k/\k.length<=32/\x≠[]/\Tr.get t (Ni.nib k)=x)
 e:∀p,Nb p->Tr.get t p≠[]->∃k,Byk k/\k.length<=32/\p=Ni.nib k
 v:∀k x,(k,x)∈l->x.length<=256
 ok:t=no∨Tr.Ok 64 t
def putL(l:PList)(k x:τ):PList:=if k.length<=32/\0<x.length/\x.length<=256 then putR k x l else l
def delL(l:PList)(k:τ):PList:=if k.length<=32 then delR k l else l
theorem Rel.nil:Rel no []:=⟨by simp[SrtP],λk x=>⟨λh=>by simp at h,λh=>absurd h.2.2.2.symm h.2.2.1⟩,λp _ h=>absurd rfl h,(λk x h=>by simp at h), .inl rfl⟩
theorem Ge(h:Byk k):Nb (Ni.nib k):=Lf h
theorem YN{t:Tr}(h:t=no∨Tr.Ok 64 t)(b:Byk k):putT t k x=no∨Tr.Ok 64 (putT t k x):=by
 unfold putT;split
 ·rename_i a;exact .inr (put_ok t 64 _ _ h (Ge b) (by rw[Ni.nib_len];omega) (λe=>by rw[e]at a;simp at a))
 ·exact h
theorem YO{t:Tr}(h:t=no∨Tr.Ok 64 t)(b:Byk k):delT t k=no∨Tr.Ok 64 (delT t k):=by
 unfold delT;split
 ·rename_i a;rcases h with rfl|h
  ·exact absurd rfl a.2
  ·exact(N3 t 64 _ h (Ge b) a.2).1
 ·exact h
theorem Jz{t:Tr}(h:t=no∨Tr.Ok 64 t)(b:Byk k)(c:Nb q):Tr.get (putT t k x) q=if(k.length<=32/\0<x.length/\x.length<=256)/\q=Ni.nib k then x else Tr.get t q:=by
 unfold putT;split
 ·rename_i a;rw[Yd t 64 _ _ _ h (Ge b) c];by_cases e:q=Ni.nib k
  ·rw[Ai e,Ai ⟨a,e⟩]
  ·rw[Ae e,Ae (λz=>e z.2)]
 ·rename_i a;rw[Ae (λz=>a z.1)]
theorem LJ{t:Tr}(h:t=no∨Tr.Ok 64 t)(c:Byk k)(d:Nb q):Tr.get (delT t k) q=if k.length<=32/\q=Ni.nib k then[]else Tr.get t q:=by
 unfold delT;split
 ·rename_i a;rcases h with rfl|h
  ·exact absurd rfl a.2
  ·rw[Yg t 64 _ _ h (Ge c) d a.2];by_cases e:q=Ni.nib k
   ·rw[Ai e,Ai ⟨a.1,e⟩]
   ·rw[Ae e,Ae (λz=>e z.2)]
 ·rename_i a;by_cases e:k.length<=32/\q=Ni.nib k
  ·rw[Ai e,e.2];by_cases b:Tr.get t (Ni.nib k)=[]
   ·exact b
   ·exact absurd ⟨e.1,b⟩ a
  ·rw[Ae e]
theorem KO{a b:τ}(h:Ni.nib a=Ni.nib b):a=b:=by rw[<-Ni.kk_nib a,h,Ni.kk_nib]
theorem Rel.put{t:Tr}{l:PList}(h:Rel t l)(b:Byk k):Rel (putT t k x) (putL l k x):=by
 by_cases a:k.length<=32/\0<x.length/\x.length<=256
 ·have u:putL l k x=putR k x l:=Ai a;have o:x≠[]:=λe=>by rw[e]at a;simp at a
  rw[u];refine⟨Pj k x l h.s,λd g=>?_,λp n m=>?_,λd g r=>?_,YN h.ok b⟩
  ·rw[Jw k x l h.s];constructor
   ·rintro(⟨rfl,rfl⟩|⟨v,y⟩)
    ·exact⟨b,a.1,o,by rw[Jz h.ok b (Ge b),Ai ⟨a,rfl⟩]⟩
    ·obtain⟨f,i,j,c⟩:=(h.m d g).1 y;exact⟨f,i,j,by rw[Jz h.ok b (Ge f),Ae (λz=>v (KO z.2))];exact c⟩
   ·rintro⟨f,i,j,c⟩;rw[Jz h.ok b (Ge f)]at c;by_cases e:d=k
    ·subst e;rw[Ai ⟨a,rfl⟩]at c;exact .inl ⟨rfl,c.symm⟩
    ·rw[Ae (λz=>e (KO z.2))]at c;exact .inr ⟨e,(h.m d g).2 ⟨f,i,j,c⟩⟩
  ·rw[Jz h.ok b n]at m;by_cases e:p=Ni.nib k
   ·exact⟨k,b,a.1,e⟩
   ·rw[Ae (λz=>e z.2)]at m;exact h.e p n m
  ·rcases(Jw k x l h.s d g).1 r with q|q
   ·rw[q.2];exact a.2.2
   ·exact h.v d g q.2
 ·have s:putL l k x=l:=Ae a;have w:putT t k x=t:=Ae a;rw[s,w];exact h
theorem Rel.isAt{t:Tr}{l:PList}(h:Rel t l)(c:Byk k)(e:k.length<=32):isAt k l=decide (Tr.get t (Ni.nib k)≠[]):=by
 by_cases a:Tr.get t (Ni.nib k)=[]
 ·rw[Bi (λz=>z a)];cases d:Go.Proofs.YtkdlocloepbmcaaGreat.isAt k l with
  |false=>rfl
  |true=>
   obtain⟨x,g⟩:=(LI k l h.s).1 d;obtain⟨_,_,f,b⟩:=(h.m k x).1 g;rw[a]at b;exact absurd b.symm f
 ·rw[AF a];exact(LI k l h.s).2 ⟨_,(h.m k _).2 ⟨c,e,a,rfl⟩⟩
theorem Rel.del{t:Tr}{l:PList}(h:Rel t l)(j:Byk k):Rel (delT t k) (delL l k):=by
 by_cases g:k.length<=32
 ·have r:delL l k=delR k l:=Ai g;rw[r];refine⟨Wu k l h.s,λb f=>?_,λp n c=>?_,λb f o=>h.v b f ((Jy k l h.s b f).1 o).2,YO h.ok j⟩
  ·rw[Jy k l h.s];constructor
   ·rintro⟨s,v⟩;obtain⟨d,m,i,a⟩:=(h.m b f).1 v;exact⟨d,m,i,by rw[LJ h.ok j (Ge d),Ae (λz=>s (KO z.2))];exact a⟩
   ·rintro⟨d,m,i,a⟩;rw[LJ h.ok j (Ge d)]at a;by_cases e:b=k
    ·subst e;rw[Ai ⟨g,rfl⟩]at a;exact absurd a.symm i
    ·rw[Ae (λz=>e (KO z.2))]at a;exact⟨e,(h.m b f).2 ⟨d,m,i,a⟩⟩
  ·rw[LJ h.ok j n]at c;by_cases e:p=Ni.nib k
   ·rw[Ai ⟨g,e⟩]at c;exact absurd rfl c
   ·rw[Ae (λz=>e z.2)]at c;exact h.e p n c
 ·have q:delL l k=l:=Ae g;have u:delT t k=t:=Ae (λz=>g z.1);rw[q,u];exact h
theorem Rel.ents{t:Tr}{l:PList}(h:Rel t l):entsF [] t=l:=by
 rcases h.ok with rfl|n
 ·rw[show entsF [] no=[]from rfl];cases l with
  |nil=>rfl
  |cons e r=>
   obtain⟨k,x⟩:=e;obtain⟨_,_,a,j⟩:=(h.m k x).1 (by simp);exact absurd j.symm a
 ·have g:∀p x,(p,x)∈entsR t->∃k,Byk k/\k.length<=32/\p=Ni.nib k/\(Ni.keyP p).1=k:=by
   intro p x b;obtain⟨q,i,a⟩:=(Jv t n p x).1 b;obtain⟨k,k1,k2,c⟩:=h.e p q (by rw[i];exact a);exact⟨k,k1,k2,c,by rw[c,Ni.key_nib k1]⟩
  rw[Ph];refine MO _ _ ?_ h.s (λy=>?_)
  ·unfold SrtP;rw[Dj];refine List.Pairwise.imp_of_mem ?_ (Wr t);rintro⟨p,x⟩⟨p',d⟩ b f w;obtain⟨k,_,_,c,m⟩:=g p x b;obtain⟨s,_,_,v,u⟩:=g p' d f;show lessP (Ni.keyP ([]++p)).1 (Ni.keyP ([]++p')).1=true;rw[AH,AH,m,u,<-Ni.less_nib,<-c,<-v];exact w
  ·obtain⟨k,x⟩:=y;constructor
   ·intro b;obtain⟨⟨p,d⟩,f,o⟩:=BC.1 b;obtain⟨s,k1,k2,c,m⟩:=g p d f;obtain⟨q,i,a⟩:=(Jv t n p d).1 f;simp only[AH,m,C5]at o;obtain⟨rfl,rfl⟩:=o;exact(h.m s d).2 ⟨k1,k2,a,by rw[<-c];exact i⟩
   ·intro b;obtain⟨k1,k2,a,j⟩:=(h.m k x).1 b;refine BC.2 ⟨(Ni.nib k,x),(Jv t n _ _).2 ⟨Ge k1,j,a⟩,?_⟩;simp only[AH,Ni.key_nib k1]
theorem Pl(l:PList)(k x:τ):(putL l k x).length<=l.length+1:=by
 unfold putL;split
 ·exact Pk k x l
 ·omega
def Sup(u:Tr)(A:τ->Prop):Prop:=∀q,Nb q->Tr.get u q≠[]->∃k,A k/\Byk k/\k.length<=32/\q=Ni.nib k
end
section
open Tr
variable {K K' X : Nat → Prop} {w w' : World} {g n c base m : Nat} {a : Option Addr} {k : List Int} {p : Value × Value} {vs' vs : List (Value × Value)} {l' : PList}
theorem TA.old:∀{t:Tr}{v:Δ},TA K w t v->TA (λb=>b<w.heap.size) w t v:=by
 have g:∀{a:Ω}{n c:Nat}{bs:τ},Sk K w a n c bs->Sk (λb=>b<w.heap.size) w a n c bs:=λh=>⟨h.ag,λx o q=>h.old o q⟩;intro t
 induction t with
 |no=>intro v h;exact h
 |leaf p x=>rintro v⟨a,n,c,a',n',c',e,d,f,l⟩;exact⟨a,n,c,a',n',c',e,g d,g f,l⟩
 |ext p t j=>rintro v⟨a,n,c,u,e,d,f⟩;exact⟨a,n,c,u,e,g d,j f⟩
 |br k x j=>rintro v⟨vs,a,n,c,e,d,f,l⟩;exact⟨vs,a,n,c,e,λi m=>j i (d i m),g f,l⟩
theorem TA.mono(g:∀b,K b->K' b):∀{t:Tr}{v:Δ},TA K w t v->TA K' w t v:=by
 intro t
 induction t with
 |no=>intro v h;exact h
 |leaf p x=>rintro v⟨a,n,c,a',n',c',e,d,f,l⟩;exact⟨a,n,c,a',n',c',e,d.mono g,f.mono g,l⟩
 |ext p t j=>rintro v⟨a,n,c,u,e,d,f⟩;exact⟨a,n,c,u,e,d.mono g,j f⟩
 |br k x j=>rintro v⟨vs,a,n,c,e,d,f,l⟩;exact⟨vs,a,n,c,e,λi m=>j i (d i m),f.mono g,l⟩
theorem Sk.tou{bs:τ}(h:Sk K w a n c bs)(t:Touch g w w')(p:¬K g):Sk K w' a n c bs:=by
 refine⟨⟨?_,h.ag.nil,h.ag.l,h.ag.b⟩,h.k⟩;rcases h.ag.i with b|⟨gb,off,b,l,i,m,o,f⟩
 ·exact .inl b
 ·refine .inr ⟨gb,off,b,l,i,m,o,λj d=>?_⟩;rw[<-f j d];have k:=h.k _ b i;exact Av (t.block gb (Al (f j d)) (λe=>p (e▸k)))
theorem TP{K1:Θ}{t:Tr}(h:Tri K w g t)(j:Sk K1 w a n c k)(s:∀b,w.heap.size<=b->K b):
 κ 11 #[π g,σ a n c] w λu w'=>u=θ #[β (if k.length<=32 then decide (Tr.get t (Ni.nib k)≠[])else false),ι (if k.length<=32 then 0 else 70)]/\Tri K w' g (delT t k)/\Touch g w w':=by
 have y:=j.len;unfold delT;rw[y];by_cases d:n<=32
 ·rw[Ai d,Ai d];by_cases f:Tr.get t (Ni.nib k)=[]
  ·rw[Ae (λq=>q.2 f),show decide (Tr.get t (Ni.nib k)≠[])=false from by simp[f]];have x:=h;obtain⟨⟨v,o,m⟩,p⟩:=x;exact(Kd o m p j d s f).mono (λe w'⟨u,l,r,i⟩=>⟨u,l,r,h.go i,Touch.of_below i⟩)
  ·rw[Ai ⟨d,f⟩,show decide (Tr.get t (Ni.nib k)≠[])=true from by simp[f]];obtain⟨⟨v,o,m⟩,p⟩:=h;exact Ke o m p j d s f
 ·rw[Ae d,Ae d,Ae (λq=>d q.1)];exact(OI j (by omega)).mono (λe w'⟨u,l,r,i⟩=>⟨u,l,r,h.go i,Touch.of_below i⟩)
def flatP(vs:List (Δ×Δ)):List Δ:=vs.flatMap λp=>[p.1,p.2]
theorem El:∀vs:List (Δ×Δ),(flatP vs).length=vs.length*2
 |[]=>rfl
 |p::r=>by have:=El r;simp only[flatP,Cp,Af,AE,BV]at this⊢;omega
theorem MP(a b:List (Δ×Δ)):flatP (a++b)=flatP a++flatP b:=by simp[flatP]
theorem LK:∀(vs:List (Δ×Δ))(m:Nat),flatP (vs.drop m)=(flatP vs).drop (m*2)
 |[],m=>by simp[flatP]
 |p::r,0=>by simp
 |p::r,m+1=>by
  rw[List.drop_succ_cons,LK r m,show(m+1)*2=m*2+1+1 from by omega];simp[flatP]
theorem LL:∀(vs:List (Δ×Δ))(m:Nat),flatP (vs.take m)=(flatP vs).take (m*2)
 |[],m=>by simp[flatP]
 |p::r,0=>by simp[flatP]
 |p::r,m+1=>by
  have a:=LL r m;rw[CF,show(m+1)*2=m*2+1+1 from by omega];simp only[flatP,Cp,BS,AH,CF]at a⊢;rw[a]
theorem MQ:∀(vs:List (Δ×Δ))(j:Nat)(p:Δ×Δ),vs[j]?=some p->(flatP vs)[j*2]?=some p.1/\(flatP vs)[j*2+1]?=some p.2
 |[],j,p,h=>by simp at h
 |q::r,0,p,h=>by simp at h;subst h;simp[flatP]
 |q::r,j+1,p,h=>by
  have:=MQ r j p (by simpa using h);rw[show(j+1)*2=j*2+1+1 from by omega];simpa[flatP]using this
theorem MR(y:Addr)(k:Nat):(y.add k).block=y.block:=by
 unfold Addr.add;split<;>rfl
def Gp2(K:Θ)(w:Γ)(p:Δ×Δ)(e:τ×τ):Prop:=∃a n c a' n' c',p.1=σ a n c/\p.2=σ a' n' c'/\Sk K w a n c e.1/\Sk K w a' n' c' e.2
theorem Gp2.mono{e:τ×τ}(h:Gp2 K w p e)(d:∀b,K b->K' b):Gp2 K' w p e:=by
 obtain⟨a,n,c,a',n',c',f,i,g,j⟩:=h;exact⟨a,n,c,a',n',c',f,i,g.mono d,j.mono d⟩
theorem Gp2.go{e:τ×τ}(h:Gp2 K w p e)(b:Λ w w'):Gp2 K w' p e:=by
 obtain⟨a,n,c,a',n',c',d,g,f,i⟩:=h;exact⟨a,n,c,a',n',c',d,g,f.go b,i.go b⟩
structure PAt(K:Θ)(w:Γ)(a:Ω)(n c:Nat)(vs:List (Δ×Δ))(l:PList):Prop where
 vl:vs.length=n
 ll:l.length=n
 nc:n<=c
 nil:a=none->n=0/\c=0
 row:∀j u,(flatP vs)[j]?=some u->∃g off,a=some ⟨g,off,none⟩/\w.cell? ⟨g,off+j,none⟩=some u
 gd:∀(j:Nat)(p:Δ×Δ)(e:τ×τ),vs[j]?=some p->l[j]?=some e->Gp2 K w p e
 rk:∀x,a=some x->0<n->K x.block
section
variable {K : Nat → Prop} {w w' : World} {a : Option Addr} {n c : Nat} {vs : List (Value × Value)} {l : PList}
theorem PAt.go(h:PAt K w a n c vs l)(f:Λ w w'):PAt K w' a n c vs l:=⟨h.vl,h.ll,h.nc,h.nil,λj u i=>by
 obtain⟨g,off,d,b⟩:=h.row j u i;exact⟨g,off,d,(f.cell (p:=⟨g,off+j,none⟩) (Al b)).trans b⟩,λj p e d b=>(h.gd j p e d b).go f,h.rk⟩
theorem PAt.drew(h:PAt K w a n c vs l):PAt K w.drew a n c vs l:=h.go (Ac _ _).drew
theorem PAt.empty(K:Θ)(w:Γ):PAt K w none 0 0 [] []:=⟨rfl,rfl,Ab _,λ_=>⟨rfl,rfl⟩,(λj u h=>by simp[flatP]at h),(λj p e h=>by simp at h),λx a=>by cases a⟩
theorem PAt.mono{K':Θ}(h:PAt K w a n c vs l)(d:∀b,K b->K' b):PAt K' w a n c vs l:=⟨h.vl,h.ll,h.nc,h.nil,h.row,λj p e f g=>(h.gd j p e f g).mono d,λx i k=>d _ (h.rk x i k)⟩
theorem PAt.old(h:PAt K w a n c vs l):PAt (λb=>K b/\b<w.heap.size) w a n c vs l:=⟨h.vl,h.ll,h.nc,h.nil,h.row,λj p e r o=>by
 obtain⟨a,n,c,a',n',c',q,t,k,i⟩:=h.gd j p e r o;exact⟨a,n,c,a',n',c',q,t,⟨k.ag,λx d f=>⟨k.k x d f,k.old d f⟩⟩,⟨i.ag,λx d f=>⟨i.k x d f,i.old d f⟩⟩⟩,λx d f=>by
 refine⟨h.rk x d f,?_⟩;obtain⟨u,s⟩:∃u,(flatP vs)[0]?=some u:=⟨_,Ad (by rw[El,h.vl];omega)⟩;obtain⟨g,off,m,v⟩:=h.row 0 u s;rw[d]at m;cases m;exact Al v⟩
theorem PAt.cutFrom(h:PAt K w a n c vs l)(f:Nat)(r:f<=n):
 ∃a' n' c',(∀(v:Γ)(ρ:Φ)(o:Oper)(x y:Operand),o.op= .slice 22 x (some y) none none->ρ x=σ a n c->ρ y=ι (f:Int)->(execOp ρ o).run prog v= .ok (.value (σ a' n' c')) v)/\PAt K w a' n' c' (vs.drop f) (l.drop f):=by
 have s:=h.nc;refine⟨if c=f then a else a.map (·.add (f*2)),n-f,c-f,?_,?_⟩
 ·intro v ρ o x y ho b hy;unfold execOp;rw[ho];simp[b,hy,Instr.sliceAt,Bm υ22,Instr.slice,Instr.sliceBounds,Instr.sliceBound,asIntOf,r,Result.andThen]
 ·refine⟨by rw[A3,h.vl],by rw[A3,h.ll],by omega,λe=>?_,λj u d=>?_,λj p e k i=>h.gd (f+j) p e (by rw[<-CK];exact k) (by rw[<-CK];exact i),λx b t=>?_⟩
  ·have:a=none:=by
    by_cases m:c=f
    ·rw[Ai m]at e;exact e
    ·rw[Ae m]at e;simpa using e
   have:=h.nil this;omega
  ·rw[LK,CK]at d;obtain⟨g,off,k,i⟩:=h.row _ _ d;have q:f*2+j<(flatP vs).length:=(Ar.1 d).1;rw[El,h.vl]at q;refine⟨g,off+f*2,?_,?_⟩
   ·rw[Ae (by omega),k,B7,BO]
   ·rw[show off+f*2+j=off+(f*2+j)from by omega];exact i
  ·rw[Ae (by omega)]at b;cases a with
   |none=>cases b
   |some y=>cases b;show K (y.add _).block;rw[MR];exact h.rk y rfl (by omega)
theorem PAt.cutTo(h:PAt K w a n c vs l)(f:Nat)(B:f<=n):
 ∃a' n' c',(∀(v:Γ)(ρ:Φ)(o:Oper)(x y:Operand),o.op= .slice 22 x none (some y) none->ρ x=σ a n c->ρ y=ι (f:Int)->(execOp ρ o).run prog v= .ok (.value (σ a' n' c')) v)/\PAt K w a' n' c' (vs.take f) (l.take f):=by
 have z:=h.nc;have s:f<=c:=by omega
 refine⟨if c=0 then a else a.map (·.add (0*2)),f,c,?_,?_⟩
 ·intro v ρ o x y ho d hy;unfold execOp;rw[ho];simp[d,hy,Instr.sliceAt,Bm υ22,Instr.slice,Instr.sliceBounds,Instr.sliceBound,asIntOf,s,Result.andThen]
 ·have A:=h.vl;have t:=h.ll;refine⟨by rw[Ap];omega,by rw[Ap];omega,by omega,λe=>?_,λj u k=>?_,λj p e b i=>?_,λx d C=>?_⟩
  ·have:a=none:=by
    by_cases m:c=0
    ·rw[Ai m]at e;exact e
    ·rw[Ae m]at e;simpa using e
   have:=h.nil this;omega
  ·rw[LL]at k;have q:j<((flatP vs).take (f*2)).length:=(Ar.1 k).1;rw[Ap,El,h.vl]at q;rw[AT (by omega)]at k;obtain⟨g,off,b,i⟩:=h.row _ _ k;exact⟨g,off,by rw[Ae (by omega),b,B7,BO];rfl,i⟩
  ·have r:j<(vs.take f).length:=(Ar.1 b).1;rw[Ap]at r;exact h.gd j p e (by rw[AT (by omega)]at b;exact b) (by rw[AT (by omega)]at i;exact i)
  ·rw[Ae (by omega)]at d;cases a with
   |none=>cases d
   |some y=>cases d;show K (y.add _).block;rw[MR];exact h.rk y rfl (by omega)
theorem PAt.at(h:PAt K w a n c vs l){j:Nat}(r:j<n):∃g off b d c1 f i c2 k x,a=some ⟨g,off,none⟩/\l[j]?=some (k,x)/\w.cell? ⟨g,off+j*2,none⟩=some (σ b d c1)/\w.cell? ⟨g,off+j*2+1,none⟩=some (σ f i c2)/\Sk K w b d c1 k/\Sk K w f i c2 x:=by
 obtain⟨p,o⟩:∃p,vs[j]?=some p:=⟨_,Ad (by rw[h.vl];exact r)⟩;obtain⟨e,s⟩:∃e,l[j]?=some e:=⟨_,Ad (by rw[h.ll];exact r)⟩;obtain⟨b,d,c1,f,i,c2,B,u,v,A⟩:=h.gd j p e o s;obtain⟨z,y⟩:=MQ vs j p o;obtain⟨g,off,q,C⟩:=h.row _ _ z;obtain⟨g',D,m,t⟩:=h.row _ _ y;rw[q]at m;cases m;exact⟨g,off,b,d,c1,f,i,c2,e.1,e.2,q,s,by rw[C,B],by rw[C4,t,u],v,A⟩
end
def OwnL(X:Θ)(w:Γ)(base:Nat)(v:Δ)(l:PList):Prop:=(∀b,base<=b->X b)/\∃vs:List (Δ×Δ),vs.length=l.length/\w.ownsRow base 55 2 v l.length (flatP vs)/\∀(j:Nat)(p:Δ×Δ)(e:τ×τ),vs[j]?=some p->l[j]?=some e->Gp2 (λb=>v.ownBlock≠some b/\X b) w p e
theorem OwnL.pat{v:Δ}{l:PList}(h:OwnL X w base v l):∃a c vs,v=σ a l.length c/\PAt X w a l.length c vs l:=by
 obtain⟨y,vs,i,⟨C,t⟩,m⟩:=h;rcases t with⟨rfl,n⟩|⟨g,cap,cur,rfl,r,z,s,A,B,q⟩
 ·refine⟨none,0,vs,by rw[n],i,rfl,by omega,λ_=>⟨n,rfl⟩,λj u b=>?_,λj p e f k=>(m j p e f k).mono (λ_ h=>h.2),λx d=>by cases d⟩;have:vs=[]:=Aw (by omega);subst this;simp[flatP]at b
 ·refine⟨some ⟨g,0,none⟩,cap,vs,rfl,i,rfl,s,(λe=>by cases e),λj u b=>⟨g,0,rfl,?_⟩,λj p e f k=>(m j p e f k).mono (λ_ h=>h.2),λx d _=>by cases d;exact y _ r⟩;rw[Aj _ _ _ _ _ _ z,A6];have o:j<(flatP vs).length:=(Ar.1 b).1;rw[El,i]at o;rw[<-q,AT (by omega)]at b;rw[<-BB];exact b
theorem XaA:∃i,prog.info? 55=some i/\i.zero=some (γ #[ε,ε])/\i.size=2/\i.bytes=48:=by
 have h:(prog.info? 55).map (λi=>(i.zero,i.size,i.bytes))=some (some (γ #[ε,ε]),2,48):=by kernel_rfl
 cases a:prog.info? 55 with
 |none=>rw[a]at h;simp at h
 |some i=>rw[a]at h;simp at h;exact⟨i,rfl,h.1,h.2.1,h.2.2⟩
theorem OwnL.far{v:Δ}{l:PList}(h:OwnL X w base v l)(b:Λ w w'):OwnL X w' base v l:=by
 obtain⟨o,vs,m,⟨d,n⟩,f⟩:=h;refine⟨o,vs,m,⟨d,?_⟩,λj p e k r=>(f j p e k r).go b⟩;rcases n with q|⟨g,cap,cur,c,s,a,i⟩
 ·exact .inl q
 ·exact .inr ⟨g,cap,cur,c,s,(b.block g (lt_of_get a)).trans a,i⟩
theorem OwnL.own{v:Δ}{l:PList}(h:OwnL X w base v l):∀k,v.ownBlock=some k->base<=k/\k<w.heap.size:=by
 obtain⟨m,vs,j,⟨f,d⟩,i⟩:=h;intro k a;rcases d with⟨rfl,_⟩|⟨g,cap,cur,rfl,b,c,_⟩
 ·cases a
 ·have e:g=k:=by simpa[Value.ownBlock]using a
  subst e;exact⟨b,lt_of_get c⟩
theorem XbO{v:Δ}{l:PList}(y:OwnL X w base v l)(h:PAt K w a m c vs' l')(hK:∀b,K b->v.ownBlock≠some b/\X b)(aa:l.length+m<=2900000000000)(E:base<=w.heap.size):
 ∃v' w',(∀ty,(Builtin.append_ #[22,22] ty #[v,σ a m c]).run prog w= .ok v' w')/\OwnL X w' base v' (l++l')/\Below base w w'/\(∀k,k<w.heap.size->v.ownBlock≠some k->w'.heap[k]?=w.heap[k]?)/\(v'.ownBlock=v.ownBlock∨v'.ownBlock=some w.heap.size):=by
 obtain⟨i,N,hz,U,W⟩:=XaA;have V:=y.own;obtain⟨hX,vs,L,J,h4⟩:=id y;cases a with
 |none=>
  obtain⟨rfl,rfl⟩:=h.nil rfl;have Y:l'=[]:=Aw h.ll;subst Y;exact⟨v,w,λty=>run_append_owned_none w base 22 ty 55 i 2 υ22 N v _ _ J,by rw[A7];exact y,Ac _ _,λ_ _ _=>rfl, .inl rfl⟩
 |some ad=>
  have hc:∀j u,(flatP vs')[j]?=some u->w.cell? (ad.add j)=some u:=by
   intro j u o;obtain⟨g,off,e1,e2⟩:=h.row j u o;cases e1;rw[BO];exact e2
  have S:∀u∈flatP vs',u.oneCell'=true:=by
   intro u hu;obtain⟨p,hp,H⟩:=Cv.1 hu;obtain⟨j,o,e⟩:=Ez.1 hp;have T:j<l'.length:=(by rw[h.ll,<-h.vl];exact o);obtain⟨P,Q,c1,O,R,c2,d,f,_,_⟩:=h.gd j p l'[j] (by rw[Ad o,e]) (Ad T);simp at H;rcases H with q|q
   ·rw[q,d];rfl
   ·rw[q,f];rfl
  obtain⟨v',w',Z,r2,A,_,M⟩:=run_append_own_at w base 22 0 55 i _ 2 48 υ22 N hz U W rfl (by decide) v l.length (flatP vs) J ad m c (flatP vs') (by rw[El,h.vl]) hc S (by unfold maxLen;omega) (by omega) E;have F:∀{K':Θ}{p:Δ×Δ}{e:τ×τ},(∀b,K' b->v.ownBlock≠some b/\X b)->Gp2 K' w p e->Gp2 (λb=>v'.ownBlock≠some b/\X b) w' p e:=by
   intro K' p e z hg;obtain⟨P,Q,c1,O,R,c2,d,f,t,C⟩:=hg;have G:∀{a:Ω}{n c:Nat}{bs:τ},Sk K' w a n c bs->Sk (λb=>v'.ownBlock≠some b/\X b) w' a n c bs:=by
    intro a n c bs r;refine⟨⟨?_,r.ag.nil,r.ag.l,r.ag.b⟩,λx D s=>?_⟩
    ·rcases r.ag.i with q|⟨gb,off,d,f,t,C,q5,I⟩
     ·exact .inl q
     ·refine .inr ⟨gb,off,d,f,t,C,q5,λj o=>?_⟩;rw[<-I j o];exact Av (A.block gb (Al (I j o)) (λe=>(z _ (r.k _ d t)).1 e.symm))
    ·refine⟨?_,(z _ (r.k x D s)).2⟩;rcases M with q|q
     ·rw[q];exact(z _ (r.k x D s)).1
     ·rw[q];intro e;have:=r.old D s;simp at e;omega
   exact⟨P,Q,c1,O,R,c2,d,f,G t,G C⟩
  refine⟨v',w',λty=>Z,⟨hX,vs++vs',by simp[L,h.vl,h.ll],?_,?_⟩,?_,λk B s=>A.block k B (λe=>s e.symm),M⟩
  ·rw[Af,h.ll,MP];exact r2
  ·intro j p e d f;by_cases o:j<vs.length
   ·rw[Bg o]at d;rw[Bg (by omega)]at f;exact F (λb hb=>hb) (h4 j p e d f)
   ·rw[Bn (by omega)]at d;rw[Bn (by omega),<-L]at f;exact F hK (h.gd _ p e d f)
  ·exact(Ac _ _).grown A E (λk B=>(V k B).1)
theorem Pm{v:Δ}{l:PList}(e:OwnL X w base v l)(h:PAt K w a m c vs' l')(i:∀b,K b->v.ownBlock≠some b/\X b)(f:l.length+m<=2900000000000)(d:base<=w.heap.size):
 ∃v' w',(∀ty,(Builtin.append_ #[22,22] ty #[v,σ a m c]).run prog w= .ok v' w')/\OwnL X w' base v' (l++l')/\Below base w w':=by
 obtain⟨v',w',j,g,k,_⟩:=XbO e h i f d;exact⟨v',w',j,g,k⟩
theorem OwnL.new(h:New w w' g #[] 55)(c:base<=w.heap.size)(a:∀b,base<=b->X b):OwnL X w' base (σ (ζ g 0) 0 0) []:=⟨a,[],rfl,⟨rfl, .inr ⟨g,0,#[],rfl,by rw[h.hg];exact c,h.row,Ab _,by unfold maxLen;omega,rfl,rfl⟩⟩,λj p e q=>by simp at q⟩
theorem PAt.one{a':Ω}{n' c':Nat}{x:τ}(h:New w w' g #[σ a n c,σ a' n' c'] 55)(m:Sk K w a n c k)(l:Sk K w a' n' c' x)(i:K g):PAt K w' (ζ g 0) 1 1 [(σ a n c,σ a' n' c')] [(k,x)]:=by
 refine⟨rfl,rfl,Ab _,(λe=>by cases e),λj u b=>⟨g,0,rfl,?_⟩,(λj p e d f=>?_),λx o _=>by cases o;exact i⟩
 ·rw[Aj _ _ _ _ _ _ h.row,A6]
  match j,b with
  |0,b=>exact b
  |1,b=>exact b
  |j+2,b=>simp[flatP]at b
 ·match j,d,f with
  |0,d,f=>
   simp at d f;subst d f;exact⟨a,n,c,a',n',c',rfl,rfl,m.go h.below,l.go h.below⟩
  |j+1,d,_=>simp at d
theorem Tri.noslice{t:Tr}(h:Tri K w g t)(o:Nat)(a:Ω)(n c:Nat):w.cell? ⟨g,o,none⟩≠some (σ a n c):=by
 obtain⟨⟨v,d,b⟩,f⟩:=h;rw[Aj _ _ _ _ _ _ d];cases o with
 |zero=>
  intro e;simp at e;subst e;cases t with
  |no=>cases b
  |leaf p x=>obtain⟨_,_,_,_,_,_,e,_⟩:=b;cases e
  |ext p t=>obtain⟨_,_,_,_,e,_⟩:=b;cases e
  |br k x=>obtain⟨_,_,_,_,e,_⟩:=b;cases e
 |succ o=>simp
theorem PAt.touch{t:Tr}{l:PList}(h:PAt K w a n c vs l)(f:Touch g w w')(o:Tri K' w g t):PAt K w' a n c vs l:=by
 refine⟨h.vl,h.ll,h.nc,h.nil,λj u k=>?_,λj p e v b=>?_,h.rk⟩
 ·obtain⟨g',off,v,b⟩:=h.row j u k;refine⟨g',off,v,?_⟩;have d:∃a n c,u=σ a n c:=by
   have H:j<(flatP vs).length:=(Ar.1 k).1;have d:u∈flatP vs:=AL k;obtain⟨p,E,y⟩:=Cv.1 d;obtain⟨i,z,e⟩:=Ez.1 E;have D:i<l.length:=(by rw[h.ll,<-h.vl];exact z);obtain⟨m,r,c1,A,B,c2,s,x,_,_⟩:=h.gd i p l[i] (by rw[Ad z,e]) (Ad D);simp at y;rcases y with q|q
   ·exact⟨_,_,_,q.trans s⟩
   ·exact⟨_,_,_,q.trans x⟩
  obtain⟨m,r,c1,rfl⟩:=d;have C:g'≠g:=λe=>by subst e;exact o.noslice _ _ _ _ b
  rw[<-b];exact Av (f.block g' (Al b) C)
 ·obtain⟨m,r,c1,A,B,c2,s,x,G,F⟩:=h.gd j p e v b;exact⟨m,r,c1,A,B,c2,s,x,G.touch f o,F.touch f o⟩
theorem PAt.tou{l:PList}(h:PAt K w a n c vs l)(f:Touch g w w')(i:¬K g):PAt K w' a n c vs l:=by
 refine⟨h.vl,h.ll,h.nc,h.nil,λj u k=>?_,λj p e d b=>?_,h.rk⟩
 ·obtain⟨g',off,d,b⟩:=h.row j u k;have m:j<(flatP vs).length:=(Ar.1 k).1;rw[El,h.vl]at m;have r:=h.rk _ d (by omega);exact⟨g',off,d,(Av (a:=⟨g',off+j,none⟩) (f.block g' (Al b) (λe=>i (e▸r)))).trans b⟩
 ·obtain⟨s,t,c1,v,y,c2,x,z,o,q⟩:=h.gd j p e d b;exact⟨s,t,c1,v,y,c2,x,z,o.tou f i,q.tou f i⟩
end
section
open Tr
open Ni (lessP)
variable {K K' : Nat → Prop} {w : World} {a ak : Option Addr} {n c j : Nat} {p q k : List Int} {p' : Addr} {v' : Value} {vs : List (Value × Value)}
theorem Sk.byte(h:Sk K w a n c p)(f:j<n):∃g off,a=some ⟨g,off,none⟩/\w.cell? ⟨g,off+j*1,none⟩=some (η (p.getD j 0)):=by
 rcases h.ag.i with⟨b,d⟩|⟨gb,off,b,d,l,i,k,e⟩
 ·omega
 ·exact⟨gb,off,b,by rw[BE];exact e j (by have:=h.len;omega)⟩
theorem JP(a:j<p.length):p.drop j=p.getD j 0::p.drop (j+1):=by
 rw[Bv a];simp[List.getD,a]
theorem TQ(a:j<p.length)(b:j<q.length):lessP (p.drop j) (q.drop j)=if p.getD j 0=q.getD j 0 then lessP (p.drop (j+1)) (q.drop (j+1))else decide (p.getD j 0<q.getD j 0):=by
 rw[JP a,JP b];rfl
theorem Wv(h:¬(j<p.length/\j<q.length))(b:j<=p.length)(c:j<=q.length):lessP (p.drop j) (q.drop j)=decide (p.length<q.length):=by
 by_cases e:j=p.length
 ·rw[BL (by omega)];by_cases a:j<q.length
  ·rw[JP a];rw[AF (by omega)];rfl
  ·rw[BL (by omega),Bi (by omega)];rfl
 ·rw[show q.drop j=[]from BL (by omega),Bi (by omega)];cases p.drop j<;>rfl
structure Cl2(w:Γ)(p p':Addr)(v v':Δ):Prop where
 cx:w.cell? p=some v
 cy:w.cell? p'=some v'
theorem Cl2.drew{p:Addr}{v:Δ}(h:Cl2 w p p' v v'):Cl2 w.drew p p' v v':=⟨h.cx,h.cy⟩
theorem Cl2.go{w':Γ}{p:Addr}{v:Δ}(h:Cl2 w p p' v v')(a:Λ w w'):Cl2 w' p p' v v':=⟨(a.cell (p:=p) (Al h.cx)).trans h.cx,(a.cell (p:=p') (Al h.cy)).trans h.cy⟩
theorem Ww{l:PList}(b:j<l.length){e:τ×τ}(a:l[j]?=some e):atN k (l.drop j)=if lessP e.1 k then atN k (l.drop (j+1))+1 else 0:=by
 have:l.drop j=e::l.drop (j+1):=by
  rw[Bv b];rw[Ad b]at a;simp at a;rw[a]
 rw[this];rfl
theorem Ss{l:PList}(h:atN k l=j){e:τ×τ}(a:l[j]?=some e):isAt k l=decide (e.1=k):=by
 unfold isAt;rw[h,a]
theorem J0{l:PList}(h:atN k l=l.length):isAt k l=false:=by
 unfold isAt;rw[h,CR (Ab _)]
theorem TR{a':Ω}{n' c':Nat}(z:Sk K w a n c p)(B:Sk K' w a' n' c' q)(N:n<=1000000):
 κ 71 #[σ a n c,σ a' n' c'] w λu w'=>(λu w'=>u=β (lessP p q)/\Bl w w') u w':=by
 have e:=Bl.refl w;have G:=z.len;have E:=B.len;refine Ck func71 41<|Ho (X:=Nat) 12 (λj=>[(5,ι (j:Int)),(0,σ a n c),(1,σ a' n' c')]) (λj v=>Bl w v/\j<=n/\j<=n'/\lessP (p.drop j) (q.drop j)=lessP p q) (λj=>n-j) 0 ⟨e,A8 _,A8 _,by simp⟩ ?_;clear e;rintro j v⟨e,I,L,r⟩ M D;by_cases k:j<n/\j<n'
 ·skip
  obtain⟨f,i,F,t⟩:=(z.go e).byte k.1;obtain⟨g,h,H,s⟩:=(B.go e).byte k.2;subst F;subst H;have m:=TQ (p:=p) (q:=q) (j:=j) (by omega) (by omega);obtain⟨x,A⟩:∃x,p.getD j 0=x:=⟨_,rfl⟩;obtain⟨y,C⟩:∃y,q.getD j 0=y:=⟨_,rfl⟩;rw[A,C,r]at m;rw[A]at t;rw[C]at s;have b:Cl2 v ⟨f,i+j*1,none⟩ ⟨g,h+j*1,none⟩ (η x) (η y):=⟨t,s⟩;refine Ht 6 ((j:Int)<(n:Int))<|Ht 4 ((j:Int)<(n':Int))<|Fq 9 (λv=>Cl2 v ⟨f,i+j*1,none⟩ ⟨g,h+j*1,none⟩ (η x) (η y)) (b.drew) ?_;replace b:=b.drew;refine Dx [0,1] 2 (og f71 4 2) (ψ f (i+j*1)) (λv d _=>AW 32 _ _ f i j n c 1 5 rfl (by kernel_rfl) (by kernel_rfl) k.1 υ32 (by kernel_rfl)) b<|Dx [] 3 (og f71 4 3) (η x) (λv d _=>AY 5 _ _ _ _ rfl (by kernel_rfl) d.cx υ5 rfl) b<|Dx [4,5] 6 (og f71 4 6) (ψ g (h+j*1)) (λv d _=>AW 32 _ _ g h j n' c' 1 5 rfl (by kernel_rfl) (by kernel_rfl) k.2 υ32 (by kernel_rfl)) b<|Dx [] 7 (og f71 4 7) (η y) (λv d _=>AY 5 _ _ _ _ rfl (by kernel_rfl) d.cy υ5 rfl) b<|Dx [] 8 (og f71 4 8) (β (!((x:Int)==(y:Int)))) (λv d _=>by kernel_rfl) b<|Do ?_;by_cases l:x=y
  ·skip
   rw[show(!((x:Int)==(y:Int)))=false from by simp[l]];refine Hi 7 ((j:Int)+1) ((j:Int)+1) ?_;replace e:=e.drew;exact D 2 (j+1) ⟨e,by omega,by omega,by rw[m,Ai l]⟩ (by show n-(j+1)<n-j;omega) (λ_=>by kernel_rfl)
  ·skip
   rw[show(!((x:Int)==(y:Int)))=true from by simp[l]];refine Fq 3 (λv=>Cl2 v ⟨f,i+j*1,none⟩ ⟨g,h+j*1,none⟩ (η x) (η y)) (b.drew) ?_;replace b:=b.drew;refine Dx [0,1] 2 (og f71 5 2) (ψ f (i+j*1)) (λv d _=>AW 32 _ _ f i j n c 1 5 rfl (by kernel_rfl) (by kernel_rfl) k.1 υ32 (by kernel_rfl)) b<|Dx [] 3 (og f71 5 3) (η x) (λv d _=>AY 5 _ _ _ _ rfl (by kernel_rfl) d.cx υ5 rfl) b<|Dx [4,5] 6 (og f71 5 6) (ψ g (h+j*1)) (λv d _=>AW 32 _ _ g h j n' c' 1 5 rfl (by kernel_rfl) (by kernel_rfl) k.2 υ32 (by kernel_rfl)) b<|Dx [] 7 (og f71 5 7) (η y) (λv d _=>AY 5 _ _ _ _ rfl (by kernel_rfl) d.cy υ5 rfl) b<|Dx [] 8 (og f71 5 8) (β (decide ((x:Int)<(y:Int)))) (λv d _=>by kernel_rfl) b<|Dx [] 9 (og f71 5 9) (β (decide ((x:Int)<(y:Int)))) (λv d _=>by kernel_rfl) b<|Do ?_;replace e:=e.drew.drew;exact Hr 7 (β (decide ((x:Int)<(y:Int)))) ⟨_,rfl,by rw[m,Ae l],e⟩
 have o:=Wv (p:=p) (q:=q) (j:=j) (by omega) (by omega) (by omega);rw[G,E]at o;by_cases J:j<n
 ·skip
  refine Ht 6 ((j:Int)<(n:Int))<|Hf 4 ((j:Int)<(n':Int))<|Hp 15 (β (decide ((n:Int)<(n':Int))))<|Hp 0 (β (decide ((n:Int)<(n':Int)))) ?_;exact Hr 3 (β (decide ((n:Int)<(n':Int)))) ⟨_,rfl,by rw[<-r,o];congr 1;exact CT.2 (by omega),e⟩
 ·skip
  refine Hf 6 ((j:Int)<(n:Int))<|Hp 20 (β (decide ((n:Int)<(n':Int))))<|Hp 0 (β (decide ((n:Int)<(n':Int)))) ?_;exact Hr 3 (β (decide ((n:Int)<(n':Int)))) ⟨_,rfl,by rw[<-r,o];congr 1;exact CT.2 (by omega),e⟩
theorem JQ{l:PList}(D:PAt K w a n c vs l){nk ck:Nat}(A:Sk K' w ak nk ck k)(M:n<=2600000000000)(E:∀(j:Nat) k x,l[j]?=some (k,x)->k.length<=1000000):
 κ 42 #[σ a n c,σ ak nk ck] w λu w'=>(λu w'=>u=θ #[ι ((atN k l:Nat):Int),β (isAt k l)]/\Bl w w') u w':=by
 have h:=Bl.refl w;have O:=D.ll;refine Ck func42 39<|Ho (X:=Nat) 13 (λj=>[(6,ι (j:Int)),(0,σ a n c),(1,σ ak nk ck)]) (λj v=>Bl w v/\j<=n/\atN k (l.drop j)+j=atN k l) (λj=>n-j) 0 ⟨h,A8 _,by simp⟩ ?_;clear h;rintro j v⟨h,J,B⟩ N F;by_cases y:j<n
 ·skip
  obtain⟨g,off,e,f,c1,m,o,c2,k1,x1,I,z,H,G,p,L⟩:=(D.go h).at y;subst I;have C:=Ww (k:=k) (l:=l) (j:=j) (by omega) z;have s:Cl2 v ⟨g,off+j*2,none⟩ ⟨g,off+j*2+1,none⟩ (σ e f c1) (σ m o c2):=⟨H,G⟩;refine Ht 6 ((j:Int)<(n:Int))<|Hx 10 (og f42 3 2) (ψ g (off+j*2)) (λ_=>AW 22 _ _ g off j n c 2 55 rfl (by kernel_rfl) (by kernel_rfl) y υ22 (by kernel_rfl))<|Hx 1 (og f42 3 4) (σ e f c1) (λ_=>AY 32 _ _ _ _ rfl (by kernel_rfl) s.cx υ32 rfl)<|Hc 1 (R:=λu w'=>u=β (lessP k1 k)/\Bl (v) w') ((TR p (A.go h) (by have:=E j k1 x1 z;have:=p.len;omega))) ?_;rintro _ d⟨rfl,t⟩;refine Hp 0 (β (lessP k1 k))<|Hp 5 (β (lessP k1 k))<|Hp 0 (β (!(lessP k1 k))) ?_;by_cases q:lessP k1 k=true
  ·skip
   rw[q];refine Hi 7 ((j:Int)+1) ((j:Int)+1) ?_;replace h:=h.go t;exact F 3 (j+1) ⟨h,by omega,by rw[Ai q]at C;omega⟩ (by show n-(j+1)<n-j;omega) (λ_=>by kernel_rfl)
  ·skip
   replace q:lessP k1 k=false:=(by simpa using q);have r:atN k l=j:=(by rw[C,Ae (by rw[q];exact Ed)]at B;omega);rw[q];replace h:=h.go t;replace s:=s.go t;replace p:=p.go t;have b:Cl2 d ⟨g,off+j*2,none⟩ ⟨g,off+j*2+1,none⟩ (σ e f c1) (σ m o c2)/\Sk K d e f c1 k1/\Sk K' d ak nk ck k:=⟨s,p,A.go h⟩;refine Fq 10 (λv=>Cl2 v ⟨g,off+j*2,none⟩ ⟨g,off+j*2+1,none⟩ (σ e f c1) (σ m o c2)/\Sk K v e f c1 k1/\Sk K' v ak nk ck k) (⟨b.1.drew,b.2.1.drew,b.2.2.drew⟩)<|Dx [0,1,2,3] 4 (og f42 6 4) (β true) (λv i=>(λ_=>E1 (v:=β (decide ((j:Int)<(n:Int)))) (by kernel_rfl) (Ao β (AF (by omega))))) (show Cl2 d.drew ⟨g,off+j*2,none⟩ ⟨g,off+j*2+1,none⟩ (σ e f c1) (σ m o c2)/\Sk K d.drew e f c1 k1/\Sk K' d.drew ak nk ck k from⟨b.1.drew,b.2.1.drew,b.2.2.drew⟩)<|Dx [5,6,7] 8 (og f42 6 8) (ψ g (off+j*2)) (λv i _=>AW 22 _ _ g off j n c 2 55 rfl (by kernel_rfl) (by kernel_rfl) y υ22 (by kernel_rfl)) (show Cl2 d.drew ⟨g,off+j*2,none⟩ ⟨g,off+j*2+1,none⟩ (σ e f c1) (σ m o c2)/\Sk K d.drew e f c1 k1/\Sk K' d.drew ak nk ck k from⟨b.1.drew,b.2.1.drew,b.2.2.drew⟩)<|Dx [9] 10 (og f42 6 10) (σ e f c1) (λv i _=>AY 32 _ _ _ _ rfl (by kernel_rfl) i.1.cx υ32 rfl) (show Cl2 d.drew ⟨g,off+j*2,none⟩ ⟨g,off+j*2+1,none⟩ (σ e f c1) (σ m o c2)/\Sk K d.drew e f c1 k1/\Sk K' d.drew ak nk ck k from⟨b.1.drew,b.2.1.drew,b.2.2.drew⟩)<|Dx [] 11 (og f42 6 11) (.string (strOfNums k1)) (λv i _=>i.2.1.run_str _ _ _ rfl (by kernel_rfl)) (show Cl2 d.drew ⟨g,off+j*2,none⟩ ⟨g,off+j*2+1,none⟩ (σ e f c1) (σ m o c2)/\Sk K d.drew e f c1 k1/\Sk K' d.drew ak nk ck k from⟨b.1.drew,b.2.1.drew,b.2.2.drew⟩)<|Dx [12] 13 (og f42 6 13) (.string (strOfNums k)) (λv i _=>i.2.2.run_str _ _ _ rfl (by kernel_rfl)) (show Cl2 d.drew ⟨g,off+j*2,none⟩ ⟨g,off+j*2+1,none⟩ (σ e f c1) (σ m o c2)/\Sk K d.drew e f c1 k1/\Sk K' d.drew ak nk ck k from⟨b.1.drew,b.2.1.drew,b.2.2.drew⟩)<|Dx [] 14 (og f42 6 14) (β (decide (k1=k))) (λv i _=>Qj 9 _ _ _ _ _ rfl (by kernel_rfl) (by kernel_rfl) (N5 p.ag.b A.ag.b)) (show Cl2 d.drew ⟨g,off+j*2,none⟩ ⟨g,off+j*2+1,none⟩ (σ e f c1) (σ m o c2)/\Sk K d.drew e f c1 k1/\Sk K' d.drew ak nk ck k from⟨b.1.drew,b.2.1.drew,b.2.2.drew⟩)<|Dx [] 15 (og f42 6 15) (β (decide (k1=k))) (λv i _=>by kernel_rfl) (show Cl2 d.drew ⟨g,off+j*2,none⟩ ⟨g,off+j*2+1,none⟩ (σ e f c1) (σ m o c2)/\Sk K d.drew e f c1 k1/\Sk K' d.drew ak nk ck k from⟨b.1.drew,b.2.1.drew,b.2.2.drew⟩)<|Dx [16] 17 (og f42 6 17) (β (decide (k1=k))) (λv i _=>by kernel_rfl) (show Cl2 d.drew ⟨g,off+j*2,none⟩ ⟨g,off+j*2+1,none⟩ (σ e f c1) (σ m o c2)/\Sk K d.drew e f c1 k1/\Sk K' d.drew ak nk ck k from⟨b.1.drew,b.2.1.drew,b.2.2.drew⟩)<|Do ?_;replace h:=h.drew;exact Hr 2 (θ #[ι (j:Int),β (decide (k1=k))]) ⟨_,rfl,by rw[r,Ss r z],h⟩
 have r:atN k l=l.length:=by rw[BL (by omega)]at B;simp only[atN]at B;omega
 have s:True:=trivial;refine Hf 6 ((j:Int)<(n:Int))<|Fq 9 (λ_=>True) (trivial)<|Dx [0,1,2,3] 4 (og f42 6 4) (β false) (λv i=>(λ_=>E1 (v:=β (decide ((j:Int)<(n:Int)))) (by kernel_rfl) (Ao β (Bi (by omega))))) trivial<|Dq [5,6,7,8,9,10,11,12,13,14,15,16,17] trivial ?_;replace h:=h.drew;exact Hr 2 (θ #[ι (j:Int),β false]) ⟨_,rfl,by rw[J0 r,r,show j=l.length from by omega],h⟩
theorem Wx{l:PList}(h:isAt k l=true)(a:atN k l=j){k1 x1:τ}(b:l[j]?=some (k1,x1)):k1=k:=by
 rw[Ss a b]at h;exact B6 h
theorem TT{l:PList}(e:PAt K w a n c vs l){nk ck:Nat}(b:Sk K' w ak nk ck k)(g:n<=2600000000000)(f:32<nk):
 κ 26 #[σ a n c,σ ak nk ck] w λu w'=>(λu w'=>u=θ #[ε,β false,ι 70]/\Bl w w') u w':=by
 have d:=Bl.refl w;have h:=b.len;have i:=e.ll;refine Ck func26 25<|Ht 12 ((nk:Int)>(32:Int)) ?_;exact Hr 12 (θ #[ε,β false,ι 70]) ⟨_,rfl,rfl,d⟩
theorem YP{l:PList}(m:PAt K w a n c vs l){nk ck:Nat}(q:Sk K' w ak nk ck k)(y:n<=2600000000000)(r:∀(j:Nat) k x,l[j]?=some (k,x)->k.length<=1000000)(D:nk<=32)(f:isAt k l=true):
 κ 26 #[σ a n c,σ ak nk ck] w λu w'=>(λu w'=>(∃b e c2,u=θ #[σ b e c2,β true,ι 0]/\∃x,l[atN k l]?=some (k,x)/\Sk K w' b e c2 x)/\Bl w w') u w':=by
 have d:=Bl.refl w;have C:=q.len;have G:=m.ll;refine Ck func26 25<|Hf 12 ((nk:Int)>(32:Int))<|Hc 9 (R:=λu w'=>u=θ #[ι ((atN k l:Nat):Int),β (isAt k l)]/\Bl (w) w') ((JQ (m.go d) (q.go d) y r)) ?_;rintro _ H⟨rfl,v⟩;rw[f];have i:atN k l<n:=by by_cases h:atN k l<n;exact h;have:=LF k l;rw[J0 (by omega)]at f;cases f
 obtain⟨j,p⟩:∃j,atN k l=j:=⟨_,rfl⟩;rw[p]at i⊢;replace d:=d.go v;obtain⟨g,off,E,F,c1,b,e,c2,k1,x1,z,o,B,s,A,t⟩:=(m.go d).at i;subst z;refine Hx 21 (og f26 6 2) (ψ g (off+j*2)) (λ_=>AW 22 _ _ g off j n c 2 55 rfl (by kernel_rfl) (by kernel_rfl) i υ22 (by kernel_rfl))<|Hx 1 (og f26 6 4) (σ b e c2) (λ_=>AY 32 _ _ _ _ rfl (by kernel_rfl) s υ32 rfl) ?_;exact Hr 6 (θ #[σ b e c2,β true,ι 0]) ⟨_,rfl,⟨b,e,c2,rfl,x1,by rw[<-Wx f p o];exact o,t⟩,d⟩
theorem Wy{l:PList}(e:PAt K w a n c vs l){nk ck:Nat}(d:Sk K' w ak nk ck k)(i:n<=2600000000000)(f:∀(j:Nat) k x,l[j]?=some (k,x)->k.length<=1000000)(q:nk<=32)(h:isAt k l=false):
 κ 26 #[σ a n c,σ ak nk ck] w λu w'=>(λu w'=>u=θ #[ε,β false,ι 0]/\Bl w w') u w':=by
 have b:=Bl.refl w;have o:=d.len;have p:=e.ll;refine Ck func26 25<|Hf 12 ((nk:Int)>(32:Int))<|Hc 9 (R:=λu w'=>u=θ #[ι ((atN k l:Nat):Int),β (isAt k l)]/\Bl (w) w') ((JQ (e.go b) (d.go b) i f)) ?_;rintro _ m⟨rfl,g⟩;rw[h];replace b:=b.go g;exact Hr 24 (θ #[ε,β false,ι 0]) ⟨_,rfl,rfl,b⟩
end
section
open Tr
variable {w : World} {K K' K2 : Nat → Prop} {a ak av : Option Addr} {n c nv cv : Nat} {vs : List (Value × Value)} {k x : List Int}
theorem Im{w':Γ}{g base:Nat}(h:New w w' g #[] 5)(a:base<=w.heap.size):OwnB w' base (σ (ζ g 0) 0 0) []:=⟨rfl, .inr ⟨g,0,#[],rfl,by rw[h.hg];exact a,h.row,Ab _,by unfold maxLen;omega,rfl,rfl⟩⟩
theorem FY{w w':Γ}{v u r:Δ}{ρ:Φ}{o:Oper}(d:∀ty,(Builtin.append_ #[22,22] ty #[v,u]).run prog w= .ok r w')(x y:Operand)(c:o.op= .call {callee:= .builtin .append,args:=#[x,y],argTypes:=#[22,22]})(b:ρ x=v)(a:ρ y=u):(execOp ρ o).run prog w= .ok (.value r) w':=by
 unfold execOp;simp only[c,resolve,invoke,builtin,AO,AV,A4,BT,Bd,BY,b,a,d]
theorem TV{l:PList}(d:PAt K w a n c vs l){nk ck:Nat}(f:Sk K' w ak nk ck k)(q:n<=2600000000000)(g:Sk K2 w av nv cv x)(i:∀(j:Nat) k x,l[j]?=some (k,x)->k.length<=1000000)(r:32<nk):
 κ 17 #[σ a n c,σ ak nk ck,σ av nv cv] w λu w'=>(λu w'=>(∃a n c vs,u=θ #[σ a n c,ι (putE k x)]/\PAt (λb=>K b∨w.heap.size<=b) w' a n c vs (putL l k x))/\Bl w w') u w':=by
 have e:=Bl.refl w;have o:=f.len;have m:=g.len;have p:=d.ll;refine Ck func17 53<|Ht 11 ((nk:Int)>(32:Int)) ?_;exact Hr 12 (θ #[σ a n c,ι 70]) ⟨_,rfl,⟨a,n,c,vs,by rw[show putE k x=70 from by unfold putE;rw[Ae (by omega)]],by unfold putL;rw[Ae (by omega)];exact(d.go e).mono (λ_ h=> .inl h)⟩,e⟩
theorem YQ{l:PList}(d:PAt K w a n c vs l){nk ck:Nat}(f:Sk K' w ak nk ck k)(r:n<=2600000000000)(g:Sk K2 w av nv cv x)(i:∀(j:Nat) k x,l[j]?=some (k,x)->k.length<=1000000)(s:nk<=32)(o:nv<1):
 κ 17 #[σ a n c,σ ak nk ck,σ av nv cv] w λu w'=>(λu w'=>(∃a n c vs,u=θ #[σ a n c,ι (putE k x)]/\PAt (λb=>K b∨w.heap.size<=b) w' a n c vs (putL l k x))/\Bl w w') u w':=by
 have e:=Bl.refl w;have p:=f.len;have m:=g.len;have q:=d.ll;refine Ck func17 53<|Hf 11 ((nk:Int)>(32:Int))<|Ht 10 ((nv:Int)<(1:Int)) ?_;exact Hr 17 (θ #[σ a n c,ι 71]) ⟨_,rfl,⟨a,n,c,vs,by rw[show putE k x=71 from by unfold putE;rw[Ai (by omega),Ae (by omega)]],by unfold putL;rw[Ae (by omega)];exact(d.go e).mono (λ_ h=> .inl h)⟩,e⟩
theorem YR{l:PList}(d:PAt K w a n c vs l){nk ck:Nat}(f:Sk K' w ak nk ck k)(r:n<=2600000000000)(g:Sk K2 w av nv cv x)(i:∀(j:Nat) k x,l[j]?=some (k,x)->k.length<=1000000)(s:nk<=32)(o:256<nv):
 κ 17 #[σ a n c,σ ak nk ck,σ av nv cv] w λu w'=>(λu w'=>(∃a n c vs,u=θ #[σ a n c,ι (putE k x)]/\PAt (λb=>K b∨w.heap.size<=b) w' a n c vs (putL l k x))/\Bl w w') u w':=by
 have e:=Bl.refl w;have p:=f.len;have m:=g.len;have q:=d.ll;refine Ck func17 53<|Hf 11 ((nk:Int)>(32:Int))<|Hf 10 ((nv:Int)<(1:Int))<|Ht 3 ((nv:Int)>(256:Int)) ?_;exact Hr 13 (θ #[σ a n c,ι 71]) ⟨_,rfl,⟨a,n,c,vs,by rw[show putE k x=71 from by unfold putE;rw[Ai (by omega),Ae (by omega)]],by unfold putL;rw[Ae (by omega)];exact(d.go e).mono (λ_ h=> .inl h)⟩,e⟩
theorem YS{l:PList}(z:PAt K w a n c vs l){nk ck:Nat}(t:Sk K' w ak nk ck k)(g:n<=2600000000000)(A:Sk K2 w av nv cv x)(M:∀(j:Nat) k x,l[j]?=some (k,x)->k.length<=1000000)(hn:nk<=32)(a0:0<nv)(ax:nv<=256)(p:isAt k l=true):
 κ 17 #[σ a n c,σ ak nk ck,σ av nv cv] w λu w'=>(λu w'=>(∃a n c vs,u=θ #[σ a n c,ι (putE k x)]/\PAt (λb=>K b∨w.heap.size<=b) w' a n c vs (putL l k x))/\Bl w w') u w':=by
 have d:=Bl.refl w;have lk:=t.len;have lx:=A.len;have ll:=z.ll;refine Ck func17 53<|Hf 11 ((nk:Int)>(32:Int))<|Hf 10 ((nv:Int)<(1:Int))<|Hf 3 ((nv:Int)>(256:Int))<|Hc 10 (R:=λu w'=>u=θ #[ι ((atN k l:Nat):Int),β (isAt k l)]/\Bl (w) w') ((JQ (z.go d) (t.go d) g M)) ?_;rintro _ u1⟨rfl,al⟩;rw[p];have a5:=LF k l;have B:=z.old;have az:atN k l<n:=by by_cases h:atN k l<n;exact h;rw[J0 (by omega)]at p;cases p
 refine M6 9 #[] 55 0 ?_;intro w0 g0 G _;replace d:=d.go al;have f:OwnL (λb=>K b∨w.heap.size<=b) w0 w.heap.size (σ (ζ g0 0) 0 0) []:=OwnL.new G d.size (λb g=> .inr g);replace d:=d.go G.below;obtain⟨a1,n1,c1,ap,D⟩:=(B.go d).cutTo (atN k l) (by omega);refine Hx 2 (og f17 6 3) (σ a1 n1 c1) (λ_=>ap _ _ _ _ _ rfl (by kernel_rfl) (by kernel_rfl)) ?_;have Q:=D.ll;obtain⟨VA,i,ai,H,ab⟩:=Pm f D (λb g=>⟨λe=>by have:=(f.own b e).1;have:=g.2;omega, .inl g.1⟩) (by rw[Ap]at Q;simp;omega) d.size;refine Hx 0 (og f17 6 4) VA (λ_=>FY ai _ _ rfl (by kernel_rfl) (by kernel_rfl)) ?_;replace d:Bl w i:=Cr d ab;replace f:=H;rw[AH]at f;have L:=f.own;have ay:=d.size;have a2:=Ab (World.heap i).size;refine M6 6 #[] 5 0 ?_;intro wk gk m _;have aa:=Im m (Ab _);obtain⟨Vk,s,P,E,aj⟩:=Gx aa (t.go (d.go m.below)).ag (by simp;omega) (by have:=m.below.size;omega);rw[AH]at E;refine Hx 1 (og f17 7 3) Vk (λ_=>I7 P _ _ rfl (by kernel_rfl) (by kernel_rfl)) ?_;have y:Λ i s:=m.below.trans aj;obtain⟨bk,dk,rfl,v⟩:=E.sk (K:=λb=>i.heap.size<=b) t.ag.b (λb g=>g);have a4:=Ab (World.heap s).size;refine M6 0 #[] 5 0 ?_;intro wx gx q _;have ae:=Im q (Ab _);replace d:=d.go y;obtain⟨Vx,ah,Y,F,ad⟩:=Gx ae (A.go (d.go q.below)).ag (by simp;omega) (by have:=q.below.size;omega);rw[AH]at F;refine Hx 1 (og f17 7 6) Vx (λ_=>I7 Y _ _ rfl (by kernel_rfl) (by kernel_rfl)) ?_;have r:Λ s ah:=q.below.trans ad;obtain⟨bx,dx,rfl,am⟩:=F.sk (K:=λb=>s.heap.size<=b) A.ag.b (λb g=>g);replace f:=(f.far y).far r;have ar:=f.own;have aq:=r.size;have aw:=y.size;refine M6 1 #[σ bk k.length dk,σ bx x.length dx] 55 1 ?_;intro wL gL o _;replace v:=v.go r;have af:=PAt.one o (v.mono (K':=λb=>i.heap.size<=b) (λb g=>g)) (am.mono (K':=λb=>i.heap.size<=b) (λb g=>by omega)) (by have:=o.hg;omega);have H:=f;have X:=L;replace d:=(d.go r).go o.below;replace f:=f.far o.below;obtain⟨VC,wC,T,Z,U⟩:=Pm f af (λb g=>⟨λe=>by have:=(X b e).2;omega, .inr (by omega)⟩) (by simp;omega) d.size;refine Hx 0 (og f17 7 9) VC (λ_=>FY T _ _ rfl (by kernel_rfl) (by kernel_rfl)) ?_;replace d:Bl w wC:=Cr d U;replace f:=Z;refine Hw 12 (ι (IntKind.i64.wrap (((atN k l:Nat):Int)+1))) (ι ((atN k l+1:Nat):Int)) (Ao (Value.int .i64) (by rw[Cy (by omega) (by omega)];omega)) ?_;obtain⟨a3,n3,c3,ao,C⟩:=(B.go d).cutFrom (atN k l+1) (by omega);refine Hx 8 (og f17 10 3) (σ a3 n3 c3) (λ_=>ao _ _ _ _ _ rfl (by kernel_rfl) (by kernel_rfl)) ?_;have W:=C.ll;obtain⟨VE,wE,ac,V,S⟩:=Pm f C (λb g=>⟨λe=>by have:=(f.own b e).1;have:=g.2;omega, .inl g.1⟩) (by rw[A3]at W;simp;omega) d.size;refine Hx 0 (og f17 10 4) VE (λ_=>FY ac _ _ rfl (by kernel_rfl) (by kernel_rfl)) ?_;replace d:Bl w wE:=Cr d S;replace f:=V;have N:putL l k x=l.take (atN k l)++[(k,x)]++l.drop (atN k l+1):=by unfold putL;rw[Ai (by omega),LG,p];rfl
 rw[<-N]at f;obtain⟨I,J,O,eF,hF⟩:=f.pat
 subst eF;exact Hr 5 (θ #[σ I (putL l k x).length J,ι 0]) ⟨_,rfl,⟨I,_,J,O,by rw[show putE k x=0 from by unfold putE;rw[Ai (by omega),Ai (by omega)]],hF⟩,d⟩
theorem Wz{l:PList}(v:PAt K w a n c vs l){nk ck:Nat}(r:Sk K' w ak nk ck k)(g:n<=2600000000000)(y:Sk K2 w av nv cv x)(L:∀(j:Nat) k x,l[j]?=some (k,x)->k.length<=1000000)(hn:nk<=32)(ay:0<nv)(aw:nv<=256)(D:isAt k l=false):
 κ 17 #[σ a n c,σ ak nk ck,σ av nv cv] w λu w'=>(λu w'=>(∃a n c vs,u=θ #[σ a n c,ι (putE k x)]/\PAt (λb=>K b∨w.heap.size<=b) w' a n c vs (putL l k x))/\Bl w w') u w':=by
 have d:=Bl.refl w;have lk:=r.len;have lx:=y.len;have ll:=v.ll;refine Ck func17 53<|Hf 11 ((nk:Int)>(32:Int))<|Hf 10 ((nv:Int)<(1:Int))<|Hf 3 ((nv:Int)>(256:Int))<|Hc 10 (R:=λu w'=>u=θ #[ι ((atN k l:Nat):Int),β (isAt k l)]/\Bl (w) w') ((JQ (v.go d) (r.go d) g L)) ?_;rintro _ u1⟨rfl,aj⟩;rw[D];have a2:=LF k l;have z:=v.old;refine M6 9 #[] 55 0 ?_;intro w0 g0 F _;replace d:=d.go aj;have f:OwnL (λb=>K b∨w.heap.size<=b) w0 w.heap.size (σ (ζ g0 0) 0 0) []:=OwnL.new F d.size (λb g=> .inr g);replace d:=d.go F.below;obtain⟨a1,n1,c1,ao,B⟩:=(z.go d).cutTo (atN k l) (by omega);refine Hx 2 (og f17 6 3) (σ a1 n1 c1) (λ_=>ao _ _ _ _ _ rfl (by kernel_rfl) (by kernel_rfl)) ?_;have P:=B.ll;obtain⟨VA,h,ah,G,aa⟩:=Pm f B (λb g=>⟨λe=>by have:=(f.own b e).1;have:=g.2;omega, .inl g.1⟩) (by rw[Ap]at P;simp;omega) d.size;refine Hx 0 (og f17 6 4) VA (λ_=>FY ah _ _ rfl (by kernel_rfl) (by kernel_rfl)) ?_;replace d:Bl w h:=Cr d aa;replace f:=G;rw[AH]at f;have J:=f.own;have ax:=d.size;have az:=Ab (World.heap h).size;refine M6 6 #[] 5 0 ?_;intro wk gk i _;have Z:=Im i (Ab _);obtain⟨Vk,q,O,C,ai⟩:=Gx Z (r.go (d.go i.below)).ag (by simp;omega) (by have:=i.below.size;omega);rw[AH]at C;refine Hx 1 (og f17 7 3) Vk (λ_=>I7 O _ _ rfl (by kernel_rfl) (by kernel_rfl)) ?_;have t:Λ h q:=i.below.trans ai;obtain⟨bk,dk,rfl,s⟩:=C.sk (K:=λb=>h.heap.size<=b) r.ag.b (λb g=>g);have a0:=Ab (World.heap q).size;refine M6 0 #[] 5 0 ?_;intro wx gx o _;have ad:=Im o (Ab _);replace d:=d.go t;obtain⟨Vx,af,X,E,ac⟩:=Gx ad (y.go (d.go o.below)).ag (by simp;omega) (by have:=o.below.size;omega);rw[AH]at E;refine Hx 1 (og f17 7 6) Vx (λ_=>I7 X _ _ rfl (by kernel_rfl) (by kernel_rfl)) ?_;have p:Λ q af:=o.below.trans ac;obtain⟨bx,dx,rfl,al⟩:=E.sk (K:=λb=>q.heap.size<=b) y.ag.b (λb g=>g);replace f:=(f.far t).far p;have aq:=f.own;have ap:=p.size;have ar:=t.size;refine M6 1 #[σ bk k.length dk,σ bx x.length dx] 55 1 ?_;intro wL gL m _;replace s:=s.go p;have ae:=PAt.one m (s.mono (K':=λb=>h.heap.size<=b) (λb g=>g)) (al.mono (K':=λb=>h.heap.size<=b) (λb g=>by omega)) (by have:=m.hg;omega);have G:=f;have W:=J;replace d:=(d.go p).go m.below;replace f:=f.far m.below;obtain⟨VC,wC,S,Y,T⟩:=Pm f ae (λb g=>⟨λe=>by have:=(W b e).2;omega, .inr (by omega)⟩) (by simp;omega) d.size;refine Hx 0 (og f17 7 9) VC (λ_=>FY S _ _ rfl (by kernel_rfl) (by kernel_rfl)) ?_;replace d:Bl w wC:=Cr d T;replace f:=Y;obtain⟨a3,n3,c3,am,A⟩:=(z.go d).cutFrom (atN k l) (by omega);refine Hx 17 (og f17 10 3) (σ a3 n3 c3) (λ_=>am _ _ _ _ _ rfl (by kernel_rfl) (by kernel_rfl)) ?_;have V:=A.ll;obtain⟨VE,wE,ab,U,Q⟩:=Pm f A (λb g=>⟨λe=>by have:=(f.own b e).1;have:=g.2;omega, .inl g.1⟩) (by rw[A3]at V;simp;omega) d.size;refine Hx 0 (og f17 10 4) VE (λ_=>FY ab _ _ rfl (by kernel_rfl) (by kernel_rfl)) ?_;replace d:Bl w wE:=Cr d Q;replace f:=U;have M:putL l k x=l.take (atN k l)++[(k,x)]++l.drop (atN k l):=by unfold putL;rw[Ai (by omega),LG,D];rfl
 rw[<-M]at f;obtain⟨H,I,N,eF,hF⟩:=f.pat
 subst eF;exact Hr 5 (θ #[σ H (putL l k x).length I,ι 0]) ⟨_,rfl,⟨H,_,I,N,by rw[show putE k x=0 from by unfold putE;rw[Ai (by omega),Ai (by omega)]],hF⟩,d⟩
theorem Po{l:PList}(f:PAt K w a n c vs l){nk ck:Nat}(e:Sk K' w ak nk ck k)(g:n<=2600000000000)(h:Sk K2 w av nv cv x)(d:∀(j:Nat) k x,l[j]?=some (k,x)->k.length<=1000000):
 κ 17 #[σ a n c,σ ak nk ck,σ av nv cv] w λu w'=>(λu w'=>(∃a n c vs,u=θ #[σ a n c,ι (putE k x)]/\PAt (λb=>K b∨w.heap.size<=b) w' a n c vs (putL l k x))/\Bl w w') u w':=by
 by_cases i:nk<=32
 ·by_cases p:nv<1
  ·exact YQ f e g h d i p
  ·by_cases o:nv<=256
   ·cases m:isAt k l with
    |true=>exact YS f e g h d i (by omega) o m
    |false=>exact Wz f e g h d i (by omega) o m
   ·exact YR f e g h d i (by omega)
 ·exact TV f e g h d (by omega)
end
section
open Tr
variable {k : Nat → Tr} {x p : List Int} {B i : Nat} {c : Tr}
def onesP(l:PList):PList:=l.map λe=>(Ni.nib e.1,e.2)
def alikeP:PList->Nat
 |[]=>0
 |e::r=>r.foldl (λn f=>min n (Ni.com e.1 f.1)) e.1.length
def under1(i:Int)(e:τ×τ):PList:=match e.1 with
 |[]=>[]
 |c::p=>if c=i then[(p,e.2)]else[]
def underP(i:Int)(l:PList):PList:=l.flatMap (under1 i)
def withoutP(n:Nat)(l:PList):PList:=l.map λe=>(e.1.drop n,e.2)
def valP(v:τ)(l:PList):τ:=l.foldl (λv e=>if e.1=[]then e.2 else v) v
theorem Rel.ones{t:Tr}{l:PList}(h:Rel t l):onesP l=entsR t:=by
 have a:=h.ents;rcases h.ok with rfl|i
 ·rw[show entsF [] no=[]from rfl]at a;subst a;rfl
 ·rw[<-a,Ph];unfold onesP;rw[DK];have:(entsR t).map ((λe:τ×τ=>(Ni.nib e.1,e.2))∘λe=>((Ni.keyP ([]++e.1)).1,e.2))=(entsR t).map id:=by
   refine List.map_congr_left ?_;rintro⟨p,x⟩ b;obtain⟨f,d,g⟩:=(Jv t i p x).1 b;obtain⟨k,k1,k2,c⟩:=h.e p f (by rw[d];exact g);show(Ni.nib (Ni.keyP ([]++p)).1,x)=(p,x);rw[AH,c,Ni.key_nib k1]
  rw[this,List.map_id]
theorem KP:∀(t:Tr){B:Nat},Tr.Ok B t->entsR t≠[]:=by
 intro t
 induction t with
 |no=>intro B h;exact h.elim
 |leaf p x=>intro B h;simp[entsR]
 |ext p c b=>intro B h;simp only[entsR,ne_eq,List.map_eq_nil_iff];exact b h.2.2.2.2
 |br k x b=>
  intro B h;obtain⟨o,l⟩:=h;have key:∀i,k i≠no->entsR (br k x)≠[]:=by
   intro i a;rcases o i with e|⟨f,q,g⟩
   ·exact absurd e a
   ·have:=b i g;intro n;obtain⟨y,m⟩:=List.exists_mem_of_ne_nil _ this;have d:((i:Int)::y.1,y.2)∈entsR (br k x):=by
     simp only[entsR,AP,Cv,Da,BC];exact .inr ⟨i,f,y,m,rfl⟩
    rw[n]at d;cases d
  rcases l with⟨i,j,_,a,_⟩|⟨_,i,a⟩
  ·exact key i a
  ·exact key i a
theorem KQ(h:Tr.Ok B (br k x))(a:k i≠no):∃p v,((i:Int)::p,v)∈entsR (br k x):=by
 rcases h.1 i with e|⟨b,f,c⟩
 ·exact absurd e a
 ·obtain⟨y,d⟩:=List.exists_mem_of_ne_nil _ (KP _ c);refine⟨y.1,y.2,?_⟩;simp only[entsR,AP,Cv,Da,BC];exact .inr ⟨i,b,y,d,rfl⟩
theorem GT{α:Type}(f:α->Nat):∀(r:List α)(n:Nat),r.foldl (λn e=>min n (f e)) n<=n
 |[],n=>Ab _
 |a::r,n=>Au (GT f r _) (Nat.min_le_left _ _)
theorem J1{α:Type}(f:α->Nat):∀(r:List α)(n:Nat)(a:α),a∈r->r.foldl (λn e=>min n (f e)) n<=f a
 |b::r,n,a,h=>by
  rcases Ay.1 h with rfl|h
  ·exact Au (GT f r _) (Nat.min_le_right _ _)
  ·exact J1 f r _ a h
theorem TW(l:PList)(h:0<alikeP l):∃c:Int,∀e∈l,∃p,e.1=c::p:=by
 cases l with
 |nil=>simp[alikeP]at h
 |cons e r=>
  have k:0<e.1.length:=BQ h (GT _ r _);obtain⟨c,p,g⟩:∃c p,e.1=c::p:=by
   cases m:e.1 with
   |nil=>rw[m]at k;simp at k
   |cons c p=>exact⟨c,p,rfl⟩
  refine⟨c,λf b=>?_⟩;rcases Ay.1 b with rfl|b
  ·exact⟨p,g⟩
  ·have a:0<Ni.com e.1 f.1:=BQ h (J1 (λf:τ×τ=>Ni.com e.1 f.1) r _ f b);cases j:f.1 with
   |nil=>rw[g,j]at a;simp[Ni.com]at a
   |cons d q=>
    rw[g,j]at a;simp only[Ni.com]at a;by_cases i:c=d
    ·subst i;exact⟨q,rfl⟩
    ·rw[Ae i]at a;omega
theorem Pq(h:Tr.Ok B (br k x)):alikeP (entsR (br k x))=0:=by
 refine Nat.eq_zero_of_not_pos λm=>?_;obtain⟨c,b⟩:=TW _ m;have kk:∀i,k i≠no->c=(i:Int):=by
  intro i a;obtain⟨p,v,f⟩:=KQ h a;obtain⟨q,g⟩:=b _ f;injection g with e _;exact e.symm
 rcases h.2 with⟨i,j,o,a,l⟩|⟨n,i,a⟩
 ·have:=kk i a;have:=kk j l;omega
 ·obtain⟨p,d⟩:=b ([],x) (by simp only[entsR];rw[Ae n];simp);cases d
theorem Su{α:Type}{l:List α}{a b:α}(d:a∈l)(g:b∈l)(h:a≠b):2<=l.length:=by
 match l with
 |[]=>cases d
 |[c]=>
  have f:a=c:=by simpa using d
  have e:b=c:=by simpa using g
  exact absurd (f.trans e.symm) h
 |_::_::_=>simp
theorem W2(h:Tr.Ok B (br k x)):2<=(entsR (br k x)).length:=by
 rcases h.2 with⟨i,j,g,b,d⟩|⟨f,i,b⟩
 ·obtain⟨p,v,a⟩:=KQ h b;obtain⟨q,u,c⟩:=KQ h d;exact Su a c (by intro e;injection e with e _;injection e with e _;omega)
 ·obtain⟨p,v,a⟩:=KQ h b;have c:(([],x):τ×τ)∈entsR (br k x):=by simp only[entsR];rw[Ae f];simp
  exact Su a c (by intro e;injection e with e _;cases e)
theorem YT(p a b:τ):Ni.com (p++a) (p++b)=p.length+Ni.com a b:=by
 induction p with
 |nil=>simp
 |cons c p d=>simp only[BS,Ni.com,Ai,d,AE];omega
theorem J2{α:Type}(f:α->Nat)(d:Nat):∀(r:List α)(n:Nat),r.foldl (λn e=>min n (d+f e)) (d+n)=d+r.foldl (λn e=>min n (f e)) n
 |[],n=>rfl
 |a::r,n=>by
  simp only[List.foldl_cons];rw[show min (d+n) (d+f a)=d+min n (f a)from by omega];exact J2 f d r _
theorem TX(p:τ)(l:PList)(h:l≠[]):alikeP (l.map λe=>(p++e.1,e.2))=p.length+alikeP l:=by
 cases l with
 |nil=>exact absurd rfl h
 |cons e r=>
  simp only[Bd,alikeP,List.foldl_map,Af,YT];exact J2 (λf:τ×τ=>Ni.com e.1 f.1) p.length r e.1.length
theorem TY(h:Tr.Ok B (ext p c)):alikeP (entsR (ext p c))=p.length:=by
 obtain⟨f,d,g,b,a⟩:=h;cases c with
 |br k x=>
  show alikeP ((entsR (br k x)).map λe=>(p++e.1,e.2))=_;rw[TX p _ (KP _ a),Pq a];omega
 |_=>cases b
theorem YU(h:Tr.Ok B (ext p c)):2<=(entsR (ext p c)).length:=by
 obtain⟨f,d,g,a,b⟩:=h;cases c with
 |br k x=>
  show 2<=((entsR (br k x)).map λe=>(p++e.1,e.2)).length;rw[AQ];exact W2 b
 |_=>cases a
theorem Pr(p:τ)(c:Tr):withoutP p.length (entsR (ext p c))=entsR c:=by
 show((entsR c).map λe=>(p++e.1,e.2)).map (λe=>(e.1.drop p.length,e.2))=_;rw[DK];have:(entsR c).map ((λe:τ×τ=>(e.1.drop p.length,e.2))∘λe=>(p++e.1,e.2))=(entsR c).map id:=by
  refine List.map_congr_left ?_;rintro⟨q,x⟩ _;show((p++q).drop p.length,x)=(q,x);rw[Cn]
 rw[this,List.map_id]
theorem Ps{α:Type}(X:List α)(i:Nat):∀n:Nat,(List.range n).flatMap (λj=>if j=i then X else[])=if i<n then X else[]
 |0=>by simp
 |n+1=>by
  rw[CO,C7,Ps X i n,List.flatMap_singleton];by_cases a:i<n
  ·rw[Ai a,Ae (by omega),Ai (by omega),A7]
  ·rw[Ae a,AH];by_cases b:n=i
   ·rw[Ai b,Ai (by omega)]
   ·rw[Ae b,Ae (by omega)]
theorem TZ(i j:Nat)(l:PList):(l.map λe=>((j:Int)::e.1,e.2)).flatMap (under1 (i:Int))=if j=i then l else[]:=by
 induction l with
 |nil=>simp
 |cons e r a=>
  rw[Bd,Cp,a];simp only[under1];by_cases h:j=i
  ·subst h;simp
  ·rw[Ae (show¬(j:Int)=(i:Int)from by omega),Ae h,Ae h];rfl
theorem under_br(k:Nat->Tr)(x:τ)(b:i<16):underP (i:Int) (entsR (br k x))=entsR (k i):=by
 unfold underP;simp only[entsR];rw[C7,List.flatMap_assoc]
 rw[FP (λj=>((entsR (k j)).map λe=>((j:Int)::e.1,e.2)).flatMap (under1 (i:Int))) (λj=>if j=i then entsR (k i)else[]) (List.range 16) (λj _=>by
  show _=_;rw[TZ];by_cases h:j=i
  ·subst h;rfl
  ·rw[Ae h,Ae h]),Ps,Ai b]
 by_cases a:x=[]
 ·rw[Ai a];rfl
 ·rw[Ae a];rfl
theorem LM:∀(l:PList)(v:τ),(∀e∈l,e.1≠[])->valP v l=v
 |[],v,_=>rfl
 |e::r,v,h=>by
  unfold valP;rw[List.foldl_cons,Ae (h e (by simp))];exact LM r v (λf a=>h f (Az _ a))
theorem val_br(k:Nat->Tr)(x:τ):valP [] (entsR (br k x))=x:=by
 have b:∀e∈(List.range 16).flatMap λi=>(entsR (k i)).map λe=>((i:Int)::e.1,e.2),e.1≠[]:=by
  intro e c;obtain⟨i,_,h⟩:=Cv.1 c;obtain⟨f,_,rfl⟩:=BC.1 h;simp
 simp only[entsR];by_cases a:x=[]
 ·rw[Ai a,AH,LM _ _ b,a]
 ·rw[Ae a];show valP [] (([],x)::_)=x;unfold valP;rw[List.foldl_cons,Ai rfl];exact LM _ _ b
end
namespace Ni
theorem Ua(b:τ)(j:Nat)(a:j<b.length):nib (b.take (j+1))=(nib (b.take j)++[b.getD j 0/16])++[b.getD j 0%16]:=by
 rw[OD a,AX];rfl
theorem rof_any(a:Ω)(n c:Nat)(b:τ)(w:Γ)(h:Ag w a n c b)(hn:2*n<=140737488355328):
 Calls prog 52 #[σ a n c] w λe w'=>(∃a' c',e=ω (σ a' (2*n) c')/\2*n<=c'/\c'<=maxLen/\Ag w' a' (2*n) c' (nib b)/\(0<2*n->∀g off,a'=some ⟨g,off,none⟩->w.heap.size<=g))/\Λ w w':=by
 have u:=Aa h.l;have HC:=Aa (λl=>ag_head h l);have L:=Aa h.b;clear h;go_enter func52,ntmps52;go_wp2_with fail
 go_loopw [3,4] (λv i w'=>∃j:Nat,j<=n/\i=ι j/\OwnB w' w.heap.size v (nib (b.take j))/\Λ w w') (λ_ i _=>n-(intOf i).toNat)
 case atStart=>exact⟨0,by omega,rfl,ownB_nil _ _,Ac _ _⟩
 case round=>
  obtain⟨j,hj,rfl,z,J⟩:=hrel;have m:=Aa z;have f:=Aa J;clear z J;by_cases R:j<n
  ·obtain⟨g,off,rfl,ad,S,E⟩:=HC.out (by omega);unfold maxLen at S;have d:=E j R;have Q:=(f.out.cell (p:=⟨g,off+j,none⟩) (Al d)).trans d;have q:j<b.length:=(by have:=u.out;omega);have P:=L.out _ (getD_mem q);have O:=Aa (Ua b j q);have A:Hid ((nib (b.take j)).length=2*j):=Aa (by rw[nib_len,Ap];omega);generalize b.getD j 0=x at Q d P O;obtain⟨ae,ac⟩:=P;have T:(j:Int)<n:=(by omega);have U:Hid (∀o:Obj,OwnB (wr.alloc o) w.heap.size u3 (nib (b.take j))):=Aa λo=>OwnB.alloc m.out o;have D:=Aa f.out.size;have G:=Aa d;clear m E q d
   go_wp2_with (first
    |(at_builtin;refine DA rfl (.tmp 11) (.tmp 17) rfl w.heap.size _ (nib (b.take j)) rfl (U.out _) (some ⟨wr.heap.size,0,none⟩) 1 1 [x/16] rfl (in0_one wr _) (λh=>by cases h) rfl (by rw[A.out];omega) (by have:=D.out;simp;omega) ?_;intro v1 w1 N H;have W:=Aa N;have k:=Aa ((f.out.alloc D.out _).trans H);clear N H;have aa:=(k.out.cell (p:=⟨g,off+j,none⟩) (Al G.out)).trans G.out)
    |(at_builtin;refine DA rfl (.tmp 19) (.tmp 25) rfl w.heap.size _ (nib (b.take j)++[x/16]) rfl (OwnB.alloc W.out _) (some ⟨w1.heap.size,0,none⟩) 1 1 [x%16] rfl (in0_one w1 _) (λh=>by cases h) rfl (by rw[Af,A.out];simp;omega) (by have:=k.out.size;simp;omega) ?_;intro v2 w2 t F;rw[<-O.out]at t;have V:=Aa t;have X:=Aa ((k.out.alloc k.out.size _).trans F);clear t F))
   exact⟨⟨j+1,by omega,by simp,V.out,X.out⟩,by simp[intOf];omega⟩
  ·have T:¬(j:Int)<n:=(by omega);have B:b.take j=b:=A9 (by have:=u.out;omega);rw[B]at m;obtain⟨a',c',rfl,s,I,y,r⟩:=m.out.cutable (Nx L.out);have C:(nib b).length=2*n:=(by rw[nib_len,u.out]);rw[C]at s y r⊢;have K:=Aa (show 0<2*n->∀g off,a'=some ⟨g,off,none⟩->w.heap.size<=g from λl g off e=>by obtain⟨g',ab,cur,M,Y,_⟩:=r l;rw[e]at M;cases M;exact Y);have H1:=Aa s;have H2:=Aa I;have Z:=Aa y;clear B s I y r C;go_wp2_with fail;go_ret;exact⟨⟨a',c',rfl,H1.out,H2.out,Z.out,by first|exact K.out|(intro l;exact K.out (by omega))⟩,f.out⟩
end Ni
end Go.Proofs.YtkdlocloepbmcaaGreat
