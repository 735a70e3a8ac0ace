/- Bits of bytes; two new cells. -/
import Derived.Test.YtkdlocloepbmcaaGreatG00
import Derived.Lib.AppendZeros
set_option linter.unusedVariables false
set_option linter.unusedSimpArgs false
set_option maxRecDepth 100000
set_option maxHeartbeats 1000000
open Go.Proofs.Tryz Go.RowKit
namespace Go.Proofs.YtkdlocloepbmcaaGreat
namespace Ni
theorem SY:∀x:Fin 256,bits BinOp.and IntKind.u8 (x.val:Int) 15=(x.val:Int)%16:=by decide+kernel
theorem Xak:∀x y:Fin 16,bits BinOp.or IntKind.u8 ((x.val:Int)*16) (y.val:Int)=16*(x.val:Int)+(y.val:Int):=by decide+kernel
theorem ZM{x:Int}(b:0<=x)(a:x<256):bits BinOp.and IntKind.u8 x 15=x%16:=by
 have:=SY ⟨x.toNat,by omega⟩;rwa [show((x.toNat:Nat):Int)=x from by omega]at this
theorem XbK{x y:Int}(c:0<=x)(a:x<=15)(b:0<=y)(d:y<=15):bits BinOp.or IntKind.u8 (x*16) y=16*x+y:=by
 have:=Xak ⟨x.toNat,by omega⟩ ⟨y.toNat,by omega⟩;rwa [show((x.toNat:Nat):Int)=x from by omega,show((y.toNat:Nat):Int)=y from by omega]at this
theorem ownB_nil(w:Γ)(base:Nat):OwnB w base (ε) []:=⟨rfl, .inl ⟨rfl,rfl⟩⟩
theorem ag_nil(w:Γ):Ag w none 0 0 []:=⟨.inl ⟨rfl,rfl⟩,λ_=>⟨rfl,rfl⟩,rfl,λx a=>by cases a⟩
theorem Yh(w:Γ)(a:Ω):Ag w a 0 0 []:=⟨.inl ⟨rfl,rfl⟩,λ_=>⟨rfl,rfl⟩,rfl,λx b=>by cases b⟩
theorem in0_one(w:Γ)(x:Int):In0 (w.alloc (.cells #[η x] 5)) (some ⟨w.heap.size,0,none⟩) 1 1 [x]:=
 .inr ⟨w.heap.size,0,rfl,rfl,by omega,Ab _,by unfold maxLen;omega,λj a=>by
  have:j=0:=by simp at a;omega
  subst this;rw[Aj _ _ _ _ _ _ (Ak _ _)];rfl⟩
theorem Yi(w:Γ)(x y:Int):In0 (w.alloc (.cells #[η x,η y] 5)) (some ⟨w.heap.size,0,none⟩) 2 2 [x,y]:=
 .inr ⟨w.heap.size,0,rfl,rfl,by omega,Ab _,by unfold maxLen;omega,λj a=>by
  have:j=0∨j=1:=by simp at a;omega
  rcases this with rfl|rfl<;>(rw[Aj _ _ _ _ _ _ (Ak _ _)];rfl)⟩
theorem below_go{w0 w w':Γ}(h:Λ w0 w)(a:Λ w w'):Λ w0 w':=h.trans (a.mono h.size)
theorem below_new(w:Γ)(o:Obj):Λ w (w.alloc o):=(Ac _ _).alloc (Ab _) _
theorem _root_.Go.Proofs.YtkdlocloepbmcaaGreat.Ag.drewN{w:Γ}{a:Ω}{len cap:Nat}{bs:τ}(h:Ag w a len cap bs):Ag w.drew a len cap bs:=⟨h.i.drew,h.nil,h.l,h.b⟩
structure Cut(w:Γ)(base:Nat)(a:Ω)(n:Nat)(bs:τ):Prop where
 ag:Ag w a n n bs
 own:0<n->∃g off cur,a=some ⟨g,off,none⟩/\base<=g/\w.heap[g]?=some (.cells cur 5)
theorem M4(b:τ)(k j:Nat):(b.drop k).getD j 0=b.getD (k+j) 0:=by
 rw[List.getD,List.getD,CK]
theorem SZ(n c k:Nat)(w:Γ)(h:k<n)(b:n<=c)(a:c<=maxLen)(f:n<=140737488355328)(g off:Nat):
 Calls prog 56 #[σ (ζ g off) n c,ι k] w λe w'=>e=ω (σ (ζ g (off+k)) (n-k) (n-k))/\w'=w:=by
 unfold maxLen at a;have d:(k:Int)<=n:=by omega
 have j:(n:Int)<=c:=by omega
 have i:¬n=k:=by omega
 go_enter func56,ntmps56;go_wp2_with fail;go_ret;exact⟨rfl,rfl⟩
theorem Ql(a:Ω)(n c:Nat)(w:Γ)(d:n<=c)(b:c<=maxLen)(g:n<=140737488355328)(hd:a=none->n=0/\c=0):
 Calls prog 56 #[σ a n c,ι n] w λe w'=>(∃a',e=ω (σ a' 0 0))/\w'=w:=by
 unfold maxLen at b;have f:(n:Int)<=c:=by omega
 cases a with
 |none=>
  obtain⟨rfl,rfl⟩:=hd rfl;clear hd;rw[show((0:Nat):Int)=0 from rfl];go_enter func56,ntmps56;go_wp2_with fail;go_ret;exact⟨⟨_,rfl⟩,rfl⟩
 |some ad=>
  clear hd;go_enter func56,ntmps56;go_wp2_with fail;go_ret;exact⟨⟨_,rfl⟩,rfl⟩
theorem behind_any(a:Ω)(n c k base:Nat)(bs:τ)(w:Γ)(B:k<=n)(f:n<=c)(d:c<=maxLen)(i:n<=140737488355328)(h:Ag w a n c bs)
 (l:0<n->∃g off cur,a=some ⟨g,off,none⟩/\base<=g/\w.heap[g]?=some (.cells cur 5)):
 Calls prog 56 #[σ a n c,ι k] w λe w'=>(∃a',e=ω (σ a' (n-k) (n-k))/\Cut w base a' (n-k) (bs.drop k))/\w'=w:=by
 have x:=h.l;by_cases m:k<n
 ·obtain⟨g,off,cur,rfl,p,o⟩:=l (by omega);refine(SZ n c k w m f d i g off).mono ?_;rintro e w'⟨rfl,rfl⟩;refine⟨⟨_,rfl,⟨⟨.inr ⟨g,off+k,rfl,by rw[A3];omega,by omega,Ab _,by unfold maxLen at d⊢;omega,λj r=>?_⟩,(λh=>by cases h),by rw[A3];omega,KZ h.b k⟩,λ_=>⟨g,off+k,cur,rfl,p,o⟩⟩⟩,rfl⟩;rcases h.i with⟨z,_⟩|⟨gb,v,b,y,A,C,D,t⟩
  ·omega
  ·injection b with b;injection b with q u;subst q u;rw[A3]at r;rw[M4,C4];exact t (k+j) (by omega)
 ·have e:k=n:=by omega
  subst e;refine(Ql a k c w f d i (λs=>by have:=h.nil s;omega)).mono ?_;rintro e w'⟨⟨a',rfl⟩,rfl⟩;rw[C8,Bx (by omega)];exact⟨⟨a',rfl,Yh w' a',λh=>by omega⟩,rfl⟩
theorem _root_.Go.Proofs.YtkdlocloepbmcaaGreat.OwnB.cutable{w:Γ}{base:Nat}{v:Δ}{bs:τ}(h:OwnB w base v bs)(m:isB bs):
 ∃a c,v=σ a bs.length c/\bs.length<=c/\c<=maxLen/\Ag w a bs.length c bs/\(0<bs.length->∃g off cur,a=some ⟨g,off,none⟩/\base<=g/\w.heap[g]?=some (.cells cur 5)):=by
 obtain⟨a,c,d,e⟩:=OwnB.ag h m;rcases h.2 with⟨b,j⟩|⟨k,cap,cur,b,j,f,i,l,p,q⟩
 ·rw[d]at b;injection b with b f i;exact⟨a,c,d,by omega,by unfold maxLen;omega,e,λo=>by omega⟩
 ·rw[d]at b;injection b with b r n;subst n;exact⟨a,c,d,i,l,e,λ_=>⟨k,0,cur,b,j,f⟩⟩
theorem of_any(a:Ω)(n c:Nat)(b:τ)(w:Γ)(h:Ag w a n c b)(Z:2*n<=140737488355328):
 Calls prog 29 #[σ a n c] w λe w'=>(∃a',e=ω (σ a' (2*n) (2*n))/\Cut w' w.heap.size a' (2*n) (nib b))/\Λ w w':=by
 have t:=Aa h.l;have HC:Hid (0<n->∃g off,a=some ⟨g,off,none⟩/\n<=c/\c<=maxLen/\∀j,j<n->w.cell? ⟨g,off+j,none⟩=some (η (b.getD j 0))):=Aa (ag_head h);have H:=Aa h.b;clear h;go_enter func29,ntmps29;go_wp2_with fail
 go_loopw [3,8] (λv i w'=>∃j:Nat,j<=n/\i=ι j/\OwnB w' w.heap.size v (nib (b.take j))/\Λ w w') (λ_ i _=>n-(intOf i).toNat)
 case atStart=>exact⟨0,by omega,rfl,ownB_nil _ _,Ac _ _⟩
 case round=>
  obtain⟨j,hj,rfl,y,G⟩:=hrel;have f:=Aa y;have d:=Aa G;clear y G;by_cases A:j<n
  ·obtain⟨g,off,rfl,X,N,m⟩:=HC.out (by omega);unfold maxLen at N;have K:=(d.out.cell (p:=⟨g,off+j,none⟩) (Al (m j A))).trans (m j A);have l:j<b.length:=(by have:=t.out;omega);have J:=H.out _ (getD_mem l);have I:=Aa (OD l);have P:Hid ((nib (b.take j)).length=2*j):=Aa (by rw[nib_len,Ap];omega);generalize b.getD j 0=x at K J I;obtain⟨U,R⟩:=J;have O:(j:Int)<n:=(by omega);have W:=ZM U R;clear m l;have Q:Hid (∀o:Obj,OwnB (wr.alloc o) w.heap.size u3 (nib (b.take j))):=Aa λo=>OwnB.alloc f.out o;have D:=Aa d.out.size;clear f;go_wp2_with (first|(at_builtin;refine DA rfl (.tmp 12) (.tmp 17) rfl w.heap.size _ (nib (b.take j)) rfl (Q.out _) (some ⟨wr.heap.size,0,none⟩) 2 2 [x/16,x%16] rfl (Yi wr _ _) (λh=>by cases h) rfl (by rw[P.out];omega) (by have:=D.out;simp;omega) ?_;intro Y w1 s E;rw[<-I.out]at s;have S:=Aa s;have T:=Aa E;clear s E));refine⟨⟨j+1,by omega,by simp,S.out,?_⟩,by simp[intOf];omega⟩;exact(d.out.alloc D.out _).trans T.out
  ·have O:¬(j:Int)<n:=(by omega);have B:b.take j=b:=A9 (by have:=t.out;omega);rw[B]at f;obtain⟨a',c',rfl,r,F,u,q⟩:=f.out.cutable (Nx H.out);have C:(nib b).length=2*n:=(by rw[nib_len,t.out]);rw[C]at r u q⊢;have k:=behind_any a' (2*n) c' 0 w.heap.size (nib b) _ (by omega) r F (by omega) u q;rw[show((0:Nat):Int)=0 from rfl,Nat.sub_zero,C1]at k;have L:=Aa k;clear B r F u q C k;go_wp2_with fail;refine L.out.mono ?_;rintro e w1⟨⟨V,rfl,z⟩,rfl⟩;have M:=Aa z;clear z;go_wp2_with fail;go_ret;exact⟨⟨V,rfl,M.out⟩,d.out⟩
end Ni
section
variable {w w' w0 : World} {base c g n n' c' : Nat} {a a' : Option Addr} {K K' : Nat → Prop} {p q : List Int}
structure Sk(K:Θ)(w:Γ)(a:Ω)(n c:Nat)(bs:τ):Prop where
 ag:Ag w a n c bs
 k:∀x,a=some x->0<n->K x.block
section
variable {K : Nat → Prop} {w w' : World} {a : Option Addr} {n c : Nat} {bs : List Int}
theorem Sk.go(h:Sk K w a n c bs)(b:Λ w w'):Sk K w' a n c bs:=⟨h.ag.at b,h.k⟩
theorem Sk.drew(h:Sk K w a n c bs):Sk K w.drew a n c bs:=h.go (Ac _ _).drew
theorem Sk.nil(K:Θ)(w:Γ):Sk K w none 0 0 []:=⟨⟨.inl ⟨rfl,rfl⟩,λ_=>⟨rfl,rfl⟩,rfl,λx a=>by cases a⟩,λx h=>by cases h⟩
theorem Sk.len(h:Sk K w a n c bs):bs.length=n:=h.ag.l
theorem Sk.from(h:Sk K w a n c bs)(f:Nat)(t:f<=n):Sk K w (if c=f then a else a.map (·.add (f*1))) (n-f) (c-f) (bs.drop f):=by
 have k:=h.len;refine⟨⟨?_,?_,by simp[k],λx i=>h.ag.b x (BA i)⟩,?_⟩
 ·rcases h.ag.i with⟨b,d⟩|⟨gb,off,b,d,s,p,r,l⟩
  ·exact .inl ⟨by omega,by simp[d]⟩
  ·by_cases m:n-f=0
   ·exact .inl ⟨m,BL (by omega)⟩
   ·refine .inr ⟨gb,off+f,?_,by simp[k],by omega,by omega,by omega,λj q=>?_⟩
    ·rw[Ae (by omega),b,B7,BO,BE]
    ·rw[A3]at q;rw[show off+f+j=off+(f+j)from by omega,l (f+j) (by omega)];simp[Ew,CK]
 ·intro e;have:a=none:=by
   by_cases g:c=f
   ·rw[Ai g]at e;exact e
   ·rw[Ae g]at e;simpa using e
  have:=h.ag.nil this;omega
 ·intro x i m;rcases h.ag.i with⟨b,d⟩|⟨gb,off,b,d,s,p,r,l⟩
  ·omega
  ·have o:=h.k _ b (by omega);by_cases g:c=f
   ·omega
   ·rw[Ae g,b,B7,BO]at i;cases i;exact o
theorem Sk.upto(h:Sk K w a n c bs)(f:Nat)(s:f<=n):Sk K w (if c=0 then a else a.map (·.add (0*1))) f c (bs.take f):=by
 have t:=h.len;have k:∀gb off,a=some ⟨gb,off,none⟩->(if c=0 then a else a.map (·.add (0*1)))=some ⟨gb,off,none⟩:=by
  intro gb off e;split
  ·exact e
  ·rw[e,B7,BO,BE,Cz]
 refine⟨⟨?_,?_,by simp;omega,λx g=>h.ag.b x (Bb g)⟩,?_⟩
 ·rcases h.ag.i with⟨b,d⟩|⟨gb,off,b,d,r,p,m,l⟩
  ·exact .inl ⟨by omega,by simp[d]⟩
  ·by_cases i:f=0
   ·exact .inl ⟨i,by simp[i]⟩
   ·refine .inr ⟨gb,off,k gb off b,by simp;omega,by omega,by omega,m,λj q=>?_⟩;rw[Ap]at q;rw[l j (by omega)];simp[Ew,AT (show j<f by omega)]
 ·intro e;have:a=none:=by
   by_cases o:c=0
   ·rw[Ai o]at e;exact e
   ·rw[Ae o]at e;simpa using e
  have:=h.ag.nil this;omega
 ·intro x g i;rcases h.ag.i with⟨b,d⟩|⟨gb,off,b,d,r,p,m,l⟩
  ·omega
  ·rw[k gb off b]at g;cases g;exact h.k _ b (by omega)
theorem Sk.cap(h:Sk K w a n c bs)(j:0<n):n<=c:=by
 rcases h.ag.i with⟨d,b⟩|⟨gb,off,d,b,i,e,g,f⟩<;>omega
theorem Sk.run_from(h:Sk K w a n c bs)(f:Nat)(d:f<=n)(v:Γ)(ρ:Φ)(o:Oper)(x y:Operand)(i:Int)(e:o.op= .slice 32 x (some y) none none)(j:ρ x=σ a n c)(g:ρ y=ι i)(b:i=f):
 (execOp ρ o).run prog v= .ok (.value (σ (if c=f then a else a.map (·.add (f*1))) (n-f) (c-f))) v:=by
 subst b;unfold execOp;rw[e];simp[j,g,Instr.sliceAt,Bm υ32,Instr.slice,Instr.sliceBounds,Instr.sliceBound,asIntOf,d,Result.andThen]
theorem Sk.run_upto(h:Sk K w a n c bs)(f:Nat)(l:f<=n)(v:Γ)(ρ:Φ)(o:Oper)(x y:Operand)(i:Int)(b:o.op= .slice 32 x none (some y) none)(j:ρ x=σ a n c)(e:ρ y=ι i)(g:i=f):
 (execOp ρ o).run prog v= .ok (.value (σ (if c=0 then a else a.map (·.add (0*1))) f c)) v:=by
 subst g;unfold execOp;rw[b];have d:f<=c:=by
  by_cases k:0<n
  ·have:=h.cap k;omega
  ·omega
 simp[j,e,Instr.sliceAt,Bm υ32,Instr.slice,Instr.sliceBounds,Instr.sliceBound,asIntOf,d,Result.andThen]
theorem Sk.run_str(h:Sk K w a n c bs)(ρ:Φ)(o:Oper)(x:Operand)(d:o.op= .convert 32 9 x)(b:ρ x=σ a n c):(execOp ρ o).run prog w= .ok (.value (.string (strOfNums bs))) w:=by
 unfold execOp;simp only[d,b,AO,FJ h.ag.i,A4,AV]
end
theorem N5{xs ys:τ}(b:∀x∈xs,0<=x/\x<256)(a:∀x∈ys,0<=x/\x<256):((strOfNums xs).toList==(strOfNums ys).toList)=decide (xs=ys):=by
 exact Ni.str_beq b a
theorem Gx{v:Δ}{bs:τ}(b:OwnB w base v bs){m:Nat}{news:τ}(h:Ag w a m c news)(s:bs.length+m<=140737488355328)(f:base<=w.heap.size):
 ∃v' w',(∀ty,(Builtin.append_ #[32,32] ty #[v,σ a m c]).run prog w= .ok v' w')/\OwnB w' base v' (bs++news)/\Below base w w':=by
 obtain⟨i,g,p,n,k⟩:=info5;cases a with
 |none=>
  obtain⟨rfl,rfl⟩:=h.nil rfl;have l:news=[]:=Aw h.l;subst l;exact⟨v,w,λty=>run_append_owned_none w base 32 ty 5 i 1 υ32 g v _ _ b,by rw[A7];exact b,Ac _ _⟩
 |some ad=>
  have q:∀j u,(news.map (Value.int .u8))[j]?=some u->w.cell? (ad.add j)=some u:=by
   rcases h.i.inB h.nil with⟨h,_⟩|⟨r,d,_,e⟩
   ·cases h
   ·cases d;exact e
  obtain⟨v',w',d,o,e,_⟩:=ET w base 32 0 5 i (η 0) 1 1 υ32 g p n k rfl (by decide) v bs.length (bs.map (Value.int .u8)) b ad m c (news.map (Value.int .u8)) (by simpa using h.l) q (B8_one2 _) (by unfold maxLen;omega) (by omega) f;refine⟨v',w',λty=>d,?_,(Ac _ _).grown e f b.lt⟩;unfold OwnB;rw[Af,h.l,Bp];exact o
theorem I7{w w':Γ}{v u r:Δ}{ρ:Φ}{o:Oper}(d:∀ty,(Builtin.append_ #[32,32] ty #[v,u]).run prog w= .ok r w')(x y:Operand)(c:o.op= .call {callee:= .builtin .append,args:=#[x,y],argTypes:=#[32,32]})(b:ρ x=v)(a:ρ y=u):(execOp ρ o).run prog w= .ok (.value r) w':=by
 unfold execOp;simp only[c,resolve,invoke,builtin,AO,AV,A4,BT,Bd,BY,b,a,d]
theorem OwnB.sk{v:Δ}{bs:τ}(h:OwnB w base v bs)(g:∀x∈bs,0<=x/\x<256)(f:∀b,base<=b->K b):∃a c,v=σ a bs.length c/\Sk K w a bs.length c bs:=by
 obtain⟨a,c,d,e⟩:=h.ag g;refine⟨a,c,d,e,λx i j=>f _ ?_⟩;exact h.lt x.block (by rw[d,i];rfl)
def brc(vs:Nat->Δ)(s:Δ):Ξ:=#[vs 0,vs 1,vs 2,vs 3,vs 4,vs 5,vs 6,vs 7,vs 8,vs 9,vs 10,vs 11,vs 12,vs 13,vs 14,vs 15,s]
def updv(vs:Nat->Δ)(i:Nat)(v:Δ):Nat->Δ:=λj=>if j=i then v else vs j
theorem EQ(vs:Nat->Δ)(s:Δ):∀i,i<16->(brc vs s)[i]?=some (vs i)
 |0,_|1,_|2,_|3,_|4,_|5,_|6,_|7,_|8,_|9,_|10,_|11,_|12,_|13,_|14,_|15,_=>rfl
 |n+16,h=>by omega
theorem FT(vs:Nat->Δ)(s v:Δ):∀i,i<16->(brc vs s).setIfInBounds i v=brc (updv vs i v) s
 |0,_|1,_|2,_|3,_|4,_|5,_|6,_|7,_|8,_|9,_|10,_|11,_|12,_|13,_|14,_|15,_=>rfl
 |n+16,h=>by omega
open Tr in
def TA(K:Θ)(w:Γ):Tr->Δ->Prop
 |no,v=>v=ν
 |leaf p x,v=>∃a n c a' n' c',v= .iface 102 (γ #[σ a n c,σ a' n' c'])/\Sk K w a n c p/\Sk K w a' n' c' x/\n'<=256
 |ext p t,v=>∃a n c u,v= .iface 255 (γ #[σ a n c,u])/\Sk K w a n c p/\TA K w t u
 |br k x,v=>∃vs a n c,v= .iface 250 (γ (brc vs (σ a n c)))/\(∀i,i<16->TA K w (k i) (vs i))/\Sk K w a n c x/\n<=256
theorem TA.go(f:Λ w w'):∀{t:Tr}{v:Δ},TA K w t v->TA K w' t v:=by
 intro t
 induction t with
 |no=>intro v h;exact h
 |leaf p x=>rintro v⟨a,n,c,a',n',c',d,b,e,j⟩;exact⟨a,n,c,a',n',c',d,b.go f,e.go f,j⟩
 |ext p t g=>rintro v⟨a,n,c,u,d,b,e⟩;exact⟨a,n,c,u,d,b.go f,g e⟩
 |br k x g=>rintro v⟨vs,a,n,c,d,b,e,j⟩;exact⟨vs,a,n,c,d,λi l=>g i (b i l),e.go f,j⟩
theorem TA.drew{t:Tr}{v:Δ}(h:TA K w t v):TA K w.drew t v:=h.go (Ac _ _).drew
theorem TA.one{t:Tr}{v:Δ}(h:TA K w t v):v.oneCell'=true:=by
 cases t with
 |no=>rw[show v=ν from h];rfl
 |leaf p x=>obtain⟨a,n,c,a',n',c',rfl,_⟩:=h;rfl
 |ext p t=>obtain⟨a,n,c,u,rfl,_⟩:=h;rfl
 |br k x=>obtain⟨vs,a,n,c,rfl,_⟩:=h;rfl
def Iv(name:String)(v:Δ)(f:FuncId)(x:Δ):Prop:=∀(w:Γ)(ρ:Φ)(o:Oper)(r:Operand)(xs:Array Operand)(tys:Array TypeId)(vs:Ξ),o.op= .call {callee:= .invoke r name,args:=xs,argTypes:=tys}->ρ r=v->xs.map ρ=vs->(execOp ρ o).run prog w= .ok (.enter f (#[x]++vs)) w
theorem FL{a:String}{T:TypeId}{f:FuncId}{x:Δ}(h:∀(w:Γ)(vs:Ξ),(callMethod (.iface T x) a vs).run prog w= .ok (.enter f (#[x]++vs)) w):Iv a (.iface T x) f x:=by
 intro w ρ o r xs tys vs ho hr ha;unfold execOp;simp[ho,resolve,invoke,hr,ha];rw[show(#[Value.iface T x]++vs)[0]?=some (.iface T x)from by rw[CA (by simp)];rfl];exact h w vs
def meth(a b c:FuncId)(T:TypeId):FuncId:=if T=102 then a else if T=255 then b else c
theorem Ta(x:Δ):Iv "pergola/trie.find" (.iface 102 x) 194 x:=FL λw vs=>by kernel_rfl
theorem Tb(x:Δ):Iv "pergola/trie.find" (.iface 255 x) 210 x:=FL λw vs=>by kernel_rfl
theorem Tc(x:Δ):Iv "pergola/trie.find" (.iface 250 x) 203 x:=FL λw vs=>by kernel_rfl
theorem Te(x:Δ):Iv "pergola/trie.with" (.iface 102 x) 197 x:=FL λw vs=>by kernel_rfl
theorem Tf(x:Δ):Iv "pergola/trie.with" (.iface 255 x) 213 x:=FL λw vs=>by kernel_rfl
theorem M5(x:Δ):Iv "pergola/trie.with" (.iface 250 x) 199 x:=FL λw vs=>by kernel_rfl
theorem N6(x:Δ):Iv "pergola/trie.without" (.iface 102 x) 198 x:=FL λw vs=>by kernel_rfl
theorem N7(x:Δ):Iv "pergola/trie.without" (.iface 255 x) 214 x:=FL λw vs=>by kernel_rfl
theorem N8(x:Δ):Iv "pergola/trie.without" (.iface 250 x) 207 x:=FL λw vs=>by kernel_rfl
theorem Qm(x:Δ):Iv "pergola/trie.under" (.iface 102 x) 196 x:=FL λw vs=>by kernel_rfl
theorem Qn(x:Δ):Iv "pergola/trie.under" (.iface 255 x) 212 x:=FL λw vs=>by kernel_rfl
theorem Qo(x:Δ):Iv "pergola/trie.under" (.iface 250 x) 206 x:=FL λw vs=>by kernel_rfl
def MC(name:String)(v:Δ)(vs:Ξ)(w:Γ)(R:Δ->Γ->Prop):Prop:=∃T x f,v= .iface T x/\Iv name v f x/\κ f (#[x]++vs) w λu w'=>R u w'
theorem Sk.cutFrom{K:Θ}{w:Γ}{a:Ω}{n c:Nat}{bs:τ}(h:Sk K w a n c bs)(f:Nat)(b:f<=n):
 ∃a' n' c',(∀(v:Γ)(ρ:Φ)(o:Oper)(x y:Operand)(i:Int),o.op= .slice 32 x (some y) none none->ρ x=σ a n c->ρ y=ι i->i=f->(execOp ρ o).run prog v= .ok (.value (σ a' n' c')) v)/\Sk K w a' n' c' (bs.drop f):=
 ⟨_,_,_,h.run_from f b,h.from f b⟩
theorem Sk.cutTo{K:Θ}{w:Γ}{a:Ω}{n c:Nat}{bs:τ}(h:Sk K w a n c bs)(f:Nat)(b:f<=n):
 ∃a' n' c',(∀(v:Γ)(ρ:Φ)(o:Oper)(x y:Operand)(i:Int),o.op= .slice 32 x none (some y) none->ρ x=σ a n c->ρ y=ι i->i=f->(execOp ρ o).run prog v= .ok (.value (σ a' n' c')) v)/\Sk K w a' n' c' (bs.take f):=
 ⟨_,_,_,h.run_upto f b,h.upto f b⟩
def Rw(g:Nat)(w:Γ)(cells:Ξ)(T:TypeId):Prop:=w.heap[g]?=some (.cells cells T (0,0))
theorem Rw.go{cells:Ξ}{T:TypeId}(h:Rw g w cells T)(a:Λ w w'):Rw g w' cells T:=Below.row a h
theorem Rw.drew{cells:Ξ}{T:TypeId}(h:Rw g w cells T):Rw g w.drew cells T:=h
def Bl(w0 w:Γ):Prop:=Λ w0 w
theorem Bl.refl(w:Γ):Bl w w:=Ac _ _
theorem Bl.go(h:Bl w0 w)(a:Λ w w'):Bl w0 w':=h.trans (a.mono h.size)
theorem Bl.drew(h:Bl w0 w):Bl w0 w.drew:=h.go (Ac _ _).drew
theorem Bl.size(h:Bl w0 w):w0.heap.size<=w.heap.size:=Below.size h
section
variable {r : Option Nat} {m : Nat} {P : Program} {ds : List Deferred} {n : Nat} {Q : Exit → Act → World → Prop} {env : Env} {w : World} {ops : Array Oper} {l : List Oper} {o : Oper} {S : World → Prop} {fuel : Nat} {listed : Array Bool} {rs : List Nat}
end
theorem Tg(h:¬q.length<=p.length):decide (p.take q.length=q)=false:=by
 rw[Bi];intro e;have:=Ao List.length e;rw[Ap]at this;omega
theorem N9{x:Int}(f:0<=x/\x<256)(h:New w w' g #[η x] 5)(c:∀b,w.heap.size<=b->K b):Sk K w' (ζ g 0) 1 1 [x]:=by
 refine⟨⟨.inr ⟨g,0,rfl,rfl,by omega,by omega,by unfold maxLen;omega,λj d=>?_⟩,(λe=>by cases e),rfl,λy a=>by rw[Bz.1 a];exact f⟩,λy a _=>?_⟩
 ·have:j=0:=by simpa using d
  subst this;rw[Aj _ _ _ _ _ _ h.row];rfl
 ·cases a;exact c _ (by rw[h.hg];exact Ab _)
section
variable {m : Nat} {P : Program} {ds : List Deferred} {n : Nat} {Q : Exit → Act → World → Prop} {env : Env} {w : World} {ops : Array Oper} {S : World → Prop}
end
abbrev Cf:=Code⊕Exit⊕(Array Oper×List Oper)
abbrev Kf:=Code⊕Nat⊕(Act->Γ->Prop)
structure Sta where
 c:Cf
 k:List Kf
 e:Env
structure Fm(ds:List Deferred)(n:Nat)(env:Env)(fb:Nat->Δ)(a:Act):Prop where
 df:a.defers=ds
 sz:a.tmps.size=n
 get:∀t,a.tmps.getD t undef=lkF env fb t
section
variable {ds : List Deferred} {n : Nat} {env : Env} {fb : Nat → Value} {a : Act}
theorem Frm.fm(h:Frm ds n env a):Fm ds n env (λt=>a.tmps.getD t undef) a:=⟨h.df,h.sz,h.get⟩
theorem Fm.ev(h:Fm ds n env fb a):a.eval=Go.Proofs.YtkdlocloepbmcaaGreat.ev env fb:=by
 funext x;cases x with
 |tmp t=>exact h.get t
 |const v=>rfl
 |global g=>rfl
 |func f=>rfl
theorem Fm.put(h:Fm ds n env fb a){d:Nat}(hd:d<n)(v:Δ):Fm ds n ((d,v)::env) fb (a.put (some d) v):=by
 refine⟨h.df,by simp[Act.put,h.sz],λt=>?_⟩;have f:d<a.tmps.size:=by rw[h.sz];exact hd
 simp only[Act.put,Dr,Array.getElem?_setIfInBounds,lkF];by_cases b:d=t
 ·subst b;simp[f]
 ·have e:Nat.beq d t=false:=by
   cases c:Nat.beq d t with
   |true=>exact absurd (Eo c) b
   |false=>rfl
  rw[e,Ae b];have:=h.get t;simp only[Dr]at this;simpa using this
theorem Fm.want(h:Fm ds n env fb a)(ops:Array Oper)(o:Oper):Region.wanted o (Go.yielded ops a.tmps)=Region.wanted o (yF ops env fb):=by
 have:Go.yielded ops a.tmps=yF ops env fb:=by
  funext j;unfold Go.yielded yF;cases(ops[j]?).bind (·.dst)with
  |none=>rfl
  |some d=>
   have b:=h.get d;simp only[Option.bind_some];rw[<-b,Dr];cases a.tmps[d]? with
   |none=>rfl
   |some v=>cases v<;>rfl
 rw[this]
end
def Qs(r:Option Nat)(m:Nat)(P:Program)(Q:Exit->Act->Γ->Prop):List Kf->Exit->Act->Γ->Prop
 |[]=>Q
 | .inl c::k=>Exit.then (c.wpIn (fz r) m P (Qs r m P Q k)) (Qs r m P Q k)
 | .inr (.inl id)::k=>Exit.inBlock id (Qs r m P Q k)
 | .inr (.inr I)::k=>Exit.then I (Qs r m P Q k)
def AtR(r:Option Nat)(m:Nat)(P:Program)(Q:Exit->Act->Γ->Prop)(c:Cf)(k:List Kf)(a:Act)(w:Γ):Prop:=
 match c with
 | .inl c=>c.wpIn (fz r) m P (Qs r m P Q k) a w
 | .inr (.inl x)=>Qs r m P Q k x a w
 | .inr (.inr x)=>wpListIn (fz r) m P x.1 (Qs r m P Q k) x.2 a w
structure HD(r:Option Nat)(m:Nat)(P:Program)(ds:List Deferred)(n:Nat)(Q:Exit->Act->Γ->Prop)(s:Sta)(w:Γ):Prop where
 g:∀fb a,Fm ds n s.e fb a->AtR r m P Q s.c s.k a w
def nx(P:Program)(n:Nat)(fb:Nat->Δ)(w:Γ)(s:Sta):Option (Sta×Γ):=
 match s.c with
 | .inl c=>match c with
  | .seq x y=>some (⟨.inl x, .inl y::s.k,s.e⟩,w)
  | .skip=>some (⟨.inr (.inl .normal),s.k,s.e⟩,w)
  | .label _=>some (⟨.inr (.inl .normal),s.k,s.e⟩,w)
  | .block id x=>some (⟨.inl x, .inr (.inl id)::s.k,s.e⟩,w)
  | .exit id=>some (⟨.inr (.inl (.exit id)),s.k,s.e⟩,w)
  | .ret=>some (⟨.inr (.inl .ret),s.k,s.e⟩,w)
  | .cond x y z=>match ev s.e fb x with
   |β b=>some (⟨.inl (bif b then y else z),s.k,s.e⟩,w)
   |_=>none
  | .region _ ops d=>bif d then none else some (⟨.inr (.inr (ops,ops.toList)),s.k,s.e⟩,w)
  |_=>none
 | .inr (.inl x)=>match x with
  | .normal=>match s.k with
   | .inl c::k=>some (⟨.inl c,k,s.e⟩,w)
   | .inr (.inl _)::k=>some (⟨.inr (.inl .normal),k,s.e⟩,w)
   |_=>none
  | .exit id=>match s.k with
   | .inl _::k=>some (⟨.inr (.inl (.exit id)),k,s.e⟩,w)
   | .inr (.inl j)::k=>some (⟨.inr (.inl (bif Nat.beq id j then .normal else .exit id)),k,s.e⟩,w)
   | .inr (.inr _)::k=>some (⟨.inr (.inl (.exit id)),k,s.e⟩,w)
   |[]=>none
  | .ret=>match s.k with
   |_::k=>some (⟨.inr (.inl .ret),k,s.e⟩,w)
   |[]=>none
  |_=>none
 | .inr (.inr (ops,l))=>match l with
  |[]=>some (⟨.inr (.inl .normal),s.k,s.e⟩,w)
  |o::l=>match o.dst with
   |some d=>bif Nat.blt d n&&noDefer o then
     bif Region.wanted o (yF ops s.e fb)then match(execOp (ev s.e fb) o).run P w with
      | .ok (.value v) w'=>some (⟨.inr (.inr (ops,l)),s.k,(d,v)::s.e⟩,w')
      |_=>none
     else some (⟨.inr (.inr (ops,l)),s.k,(d,undef)::s.e⟩,w)
    else none
   |none=>none
def it(P:Program)(n:Nat)(fb:Nat->Δ):Nat->Γ->Sta->Option (Sta×Γ)
 |0,w,s=>some (s,w)
 |k+1,w,s=>match nx P n fb w s with
  |some x=>it P n fb k x.2 x.1
  |none=>none
def au(P:Program)(n k:Nat)(w:Γ)(s:Sta):Sta:=match it P n (λ_=>undef) k w s with
 |some x=>x.1
 |none=>s
def cu(n:Nat)(fb:Nat->Δ)(s:Sta):Option (Oper×Option Nat):=
 match s.c with
 | .inr (.inr (ops,l))=>match l with
  |o::_=>bif noDefer o&&Region.wanted o (yF ops s.e fb)then match o.dst with
   |some d=>bif Nat.blt d n then some (o,some d)else none
   |none=>some (o,none)
   else none
  |[]=>none
 |_=>none
def pv(s:Sta)(v:Δ):Sta:=
 match s.c with
 | .inr (.inr (ops,l))=>match l with
  |o::l=>match o.dst with
   |some d=>⟨.inr (.inr (ops,l)),s.k,(d,v)::s.e⟩
   |none=>⟨.inr (.inr (ops,l)),s.k,s.e⟩
  |[]=>s
 |_=>s
section
variable {r : Option Nat} {m : Nat} {P : Program} {ds : List Deferred} {n : Nat} {Q : Exit → Act → World → Prop} {w w' : World} {s s' : Sta} {fb : Nat → Value}
theorem Xbq(h:nx P n fb w s=some (s',w'))(i:∀a,Fm ds n s'.e fb a->AtR r m P Q s'.c s'.k a w'):∀a,Fm ds n s.e fb a->AtR r m P Q s.c s.k a w:=by
 intro a g;obtain⟨c,k,e⟩:=s;unfold nx at h;rcases c with c|x|⟨ops,l⟩
 ·cases c with
  |seq x y=>cases h;exact wpIn_seq (i a g)
  |skip=>cases h;exact wpIn_skip (i a g)
  |label l=>cases h;exact wpIn_label (i a g)
  |block p x=>cases h;exact wpIn_block (i a g)
  |exit p=>cases h;exact wpIn_exit (i a g)
  |ret=>cases h;exact wpIn_ret (i a g)
  |cond x y z=>
   simp only at h;split at h
   ·rename_i b C;cases h;cases b with
    |true=>exact wpIn_cond_true (by rw[g.ev];exact C) (i a g)
    |false=>exact wpIn_cond_false (by rw[g.ev];exact C) (i a g)
   ·cases h
  |region p ops d=>
   cases d with
   |true=>cases h
   |false=>cases h;exact wpIn_region_list (i a g)
  |loop=>cases h
  |rangeFunc=>cases h
  |scope=>cases h
  |goto=>cases h
  |refuse=>cases h
 ·cases x with
  |normal=>
   rcases k with _|⟨c|p|I,k⟩
   ·cases h
   ·cases h;exact i a g
   ·cases h;exact i a g
   ·cases h
  |exit p=>
   rcases k with _|⟨c|j|I,k⟩
   ·cases h
   ·cases h;exact i a g
   ·cases h;have:=i a g;show if p=j then Qs r m P Q k .normal a w else Qs r m P Q k (.exit p) a w
    simp only[AtR]at this;cases t:Nat.beq p j with
    |true=>rw[t]at this;rw[Ai (Eo t)];exact this
    |false=>rw[t]at this;rw[Ae (Nat.ne_of_beq_eq_false t)];exact this
   ·cases h;exact i a g
  |ret=>
   rcases k with _|⟨c|p|I,k⟩
   ·cases h
   ·cases h;exact i a g
   ·cases h;exact i a g
   ·cases h;exact i a g
  |goto l=>cases h
  |panic F=>cases h
  |outgrown=>cases h
 ·cases l with
  |nil=>cases h;exact i a g
  |cons o l=>
   simp only at h;split at h
   ·rename_i d hd;cases q:(Nat.blt d n&&noDefer o)with
    |false=>rw[q]at h;cases h
    |true=>
     rw[q]at h;simp only[BZ]at q;have u:d<n:=(by simpa[Nat.blt_eq]using q.1);have D:=Ft q.2;simp only[cond_true]at h;refine wpListIn_step λK B=>?_;rw[g.want];cases A:Region.wanted o (yF ops e fb)with
     |true=>
      rw[A]at h;simp only[cond_true]at h;rw[Ai rfl];refine⟨λf _=>trivial,?_⟩;split at h
      ·rename_i v w1 E;cases h;rw[Oper.semAt_eq _ _ _ D,g.ev,E,Oper.uponIn_value,hd];exact B _ _ (i _ (g.put u v))
      ·cases h
     |false=>
      rw[A]at h;simp only[cond_false]at h;cases h;rw[Ae Ed,hd];exact⟨λf _=>trivial,B _ _ (i _ (g.put u _))⟩
   ·cases h
theorem FU:∀(k:Nat){w:Γ}{s:Sta},it P n fb k w s=some (s',w')->(∀a,Fm ds n s'.e fb a->AtR r m P Q s'.c s'.k a w')->∀a,Fm ds n s.e fb a->AtR r m P Q s.c s.k a w:=by
 intro k
 induction k with
 |zero=>intro w s h b;cases h;exact b
 |succ k c=>
  intro w s h b;unfold it at h;split at h
  ·rename_i x d;obtain⟨e,w1⟩:=x;exact Xbq d (c h b)
  ·cases h
theorem KC{o:Oper}{d:Option Nat}(h:cu n fb s=some (o,d)):∃ops l,s.c= .inr (.inr (ops,o::l))/\o.dst=d/\(∀x,d=some x->x<n)/\Region.wanted o (yF ops s.e fb)=true/\∀c,o.op≠ .defer c:=by
 unfold cu at h;split at h
 ·rename_i ops l i;split at h
  ·rename_i j g;cases a:(noDefer j&&Region.wanted j (yF ops s.e fb))with
   |false=>rw[a]at h;cases h
   |true=>
    rw[a]at h;simp only[cond_true]at h;simp only[BZ]at a;split at h
    ·rename_i x f;cases e:Nat.blt x n with
     |false=>rw[e]at h;cases h
     |true=>
      rw[e]at h;cases h;exact⟨ops,g,i,f,λy b=>by cases b;simpa[Nat.blt_eq]using e,a.2,Ft a.1⟩
    ·rename_i f;cases h;exact⟨ops,g,i,f,(λy b=>nomatch b),a.2,Ft a.1⟩
  ·cases h
 ·cases h
def opR(P:Program)(n:Nat)(fb:Nat->Δ)(s:Sta)(w:Γ):Option (Result Next):=(cu n fb s).map λx=>(execOp (ev s.e fb) x.1).run P w
theorem Xbr{ops:Array Oper}{o:Oper}{l:List Oper}(h:s.c= .inr (.inr (ops,o::l)))(v:Δ):(pv s v).c= .inr (.inr (ops,l))/\(pv s v).k=s.k/\(pv s v).e=match o.dst with|some d=>(d,v)::s.e|none=>s.e:=by
 obtain⟨c,k,e⟩:=s;cases h;unfold pv;simp only;cases o.dst<;>exact⟨rfl,rfl,rfl⟩
theorem RK{v:Δ}(g:HD r m P ds n Q (pv s v) w'){ops:Array Oper}{o:Oper}{l:List Oper}(h:s.c= .inr (.inr (ops,o::l))){d:Option Nat}(hd:o.dst=d)(c:∀x,d=some x->x<n){a:Act}(b:Fm ds n s.e fb a):
 wpListIn (fz r) m P ops (Qs r m P Q s.k) l (a.put o.dst v) w':=by
 obtain⟨e,i,f⟩:=Xbr h v
 have:=g.g fb (a.put o.dst v) (by
  rw[f];cases j:o.dst with
  |none=>exact b
  |some x=>exact b.put (c x (hd▸j)) v)
 rw[e,i]at this;exact this
theorem Vj{v:Δ}(q:∀fb,∃o d,cu n fb s=some (o,d)/\((execOp (ev s.e fb) o).run P w= .ok (.value v) w'∨(o.dst=none/\(execOp (ev s.e fb) o).run P w= .ok .skip w')))(i:HD r m P ds n Q (pv s v) w'):∀fb a,Fm ds n s.e fb a->AtR r m P Q s.c s.k a w:=by
 intro fb a b;obtain⟨o,d,k,c⟩:=q fb;obtain⟨ops,l,e,hd,h,p,g⟩:=KC k;rw[e];refine wpListIn_step λK j=>?_;rw[b.want,p,Ai rfl];refine⟨λf _=>trivial,?_⟩;rcases c with c|⟨t,c⟩
 ·rw[Oper.semAt_eq _ _ _ g,b.ev,c,Oper.uponIn_value];exact j _ _ (RK i e hd h b)
 ·rw[Oper.semAt_eq _ _ _ g,b.ev,c,Oper.uponIn_skip];have:=RK i e hd h b;rw[t]at this⊢;exact j _ _ this
def ck(P:Program)(n:Nat)(fb:Nat->Δ)(k:Nat)(w:Γ)(s:Sta):Option (Sta×Γ×Oper×Option Nat):=match it P n fb k w s with
 |some x=>(cu n fb x.1).map λy=>(x.1,x.2,y.1,y.2)
 |none=>none
def cr(P:Program)(n:Nat)(fb:Nat->Δ)(k:Nat)(w:Γ)(s:Sta):Option (Sta×Γ×Result Next):=match it P n fb k w s with
 |some x=>(opR P n fb x.1 x.2).map λy=>(x.1,x.2,y)
 |none=>none
theorem Lc{k:Nat}{t:Sta}{o:Oper}{d:Option Nat}(h:ck P n fb k w s=some (t,w,o,d)):it P n fb k w s=some (t,w)/\cu n fb t=some (o,d):=by
 unfold ck at h;split at h
 ·rename_i x b;obtain⟨c,w1⟩:=x;cases a:cu n fb c with
  |none=>rw[a]at h;cases h
  |some y=>rw[a]at h;cases h;exact⟨b,a⟩
 ·cases h
theorem Iy{k:Nat}{t:Sta}{x:Result Next}(h:cr P n fb k w s=some (t,w,x)):it P n fb k w s=some (t,w)/\∃o d,cu n fb t=some (o,d)/\(execOp (ev t.e fb) o).run P w=x:=by
 unfold cr at h;split at h
 ·rename_i y b;obtain⟨c,w1⟩:=y;unfold opR at h;cases a:cu n fb c with
  |none=>simp only[a]at h;cases h
  |some z=>simp only[a,B7]at h;cases h;exact⟨b,_,_,a,rfl⟩
 ·cases h
theorem Hx(k:Nat)(o:Oper)(v:Δ)(f:∀fb,(execOp (ev (au P n k w s).e fb) o).run P w= .ok (.value v) w')(d:HD r m P ds n Q (pv (au P n k w s) v) w')(b:∀fb,ck P n fb k w s=some (au P n k w s,w,o,o.dst):=by intro _;kernel_rfl):HD r m P ds n Q s w:= .mk λfb=>by
 obtain⟨c,g⟩:=Lc (b fb);exact FU k c (Vj (λa=>⟨o,_,(Lc (b a)).2, .inl (f a)⟩) d fb)
theorem Hs(k:Nat)(o:Oper)(f:∀fb,(execOp (ev (au P n k w s).e fb) o).run P w= .ok .skip w')(d:HD r m P ds n Q (pv (au P n k w s) undef) w')(b:∀fb,ck P n fb k w s=some (au P n k w s,w,o,none):=by intro _;kernel_rfl):HD r m P ds n Q s w:= .mk λfb=>by
 obtain⟨g,c⟩:=Lc (b fb);have h:o.dst=none:=by obtain⟨ops,l,i,hd,_⟩:=KC c;exact hd
 exact FU k g (Vj (λa=>⟨o,_,(Lc (b a)).2, .inr ⟨h,f a⟩⟩) d fb)
theorem Hw(k:Nat)(v v':Δ)(e:v=v')(h:HD r m P ds n Q (pv (au P n k w s) v') w)(a:∀fb,cr P n fb k w s=some (au P n k w s,w, .ok (.value v) w):=by intro _;kernel_rfl):HD r m P ds n Q s w:= .mk λfb=>by
 obtain⟨c,_⟩:=Iy (a fb);exact FU k c (Vj (λb=>by obtain⟨_,o,d,g,f⟩:=Iy (a b);exact⟨o,d,g, .inl (by rw[f,e])⟩) h fb)
theorem Hp(k:Nat)(v:Δ)(b:HD r m P ds n Q (pv (au P n k w s) v) w)(a:∀fb,cr P n fb k w s=some (au P n k w s,w, .ok (.value v) w):=by intro _;kernel_rfl):HD r m P ds n Q s w:=Hw k v v rfl b a
theorem Hi(k:Nat)(x y:Int)(c:HD r m P ds n Q (pv (au P n k w s) (ι y)) w)(a:IntKind.i64.wrap x=y:=by first|exact Cy (by omega) (by omega)|(rw[Cy (by omega) (by omega)];rfl))(b:∀fb,cr P n fb k w s=some (au P n k w s,w, .ok (.value (ι (IntKind.i64.wrap x))) w):=by intro _;kernel_rfl):HD r m P ds n Q s w:=Hw k _ _ (by rw[a]) c b
theorem Hb(k:Nat)(b c:Bool)(e:b=c)(d:HD r m P ds n Q (pv (au P n k w s) (β c)) w)(a:∀fb,cr P n fb k w s=some (au P n k w s,w, .ok (.value (β b)) w):=by intro _;kernel_rfl):HD r m P ds n Q s w:=Hw k _ _ (by rw[e]) d a
theorem Ht(k:Nat)(p:Prop)[Decidable p](b:HD r m P ds n Q (pv (au P n k w s) (β true)) w)(e:p:=by omega)(a:∀fb,cr P n fb k w s=some (au P n k w s,w, .ok (.value (β (decide p))) w):=by intro _;kernel_rfl):HD r m P ds n Q s w:=Hb k _ _ (AF e) b a
theorem Hf(k:Nat)(p:Prop)[Decidable p](b:HD r m P ds n Q (pv (au P n k w s) (β false)) w)(e:¬p:=by omega)(a:∀fb,cr P n fb k w s=some (au P n k w s,w, .ok (.value (β (decide p))) w):=by intro _;kernel_rfl):HD r m P ds n Q s w:=Hb k _ _ (Bi e) b a
theorem Hq(k:Nat)(x y:Int)(b:HD r m P ds n Q (pv (au P n k w s) (β true)) w)(e:x=y:=by omega)(a:∀fb,cr P n fb k w s=some (au P n k w s,w, .ok (.value (β (x==y))) w):=by intro _;kernel_rfl):HD r m P ds n Q s w:=Hb k _ _ (Ee.2 e) b a
theorem Hz(k:Nat)(x y:Int)(b:HD r m P ds n Q (pv (au P n k w s) (β false)) w)(e:x≠y:=by omega)(a:∀fb,cr P n fb k w s=some (au P n k w s,w, .ok (.value (β (x==y))) w):=by intro _;kernel_rfl):HD r m P ds n Q s w:=Hb k _ _ (Bo.2 e) b a
theorem Hn(k:Nat)(cells:Ξ)(T:TypeId)(f:∀w' g,New w w' g cells T->Rw g w' cells T->HD r m P ds n Q (pv (au P n k w s) (π g)) w')(a:∀fb,cr P n fb k w s=some (au P n k w s,w, .ok (.value (π (w.heap.size))) (w.alloc (.cells cells T))):=by intro _;kernel_rfl):HD r m P ds n Q s w:= .mk λfb=>by
 obtain⟨h,_⟩:=Iy (a fb);have b:New w (w.alloc (.cells cells T)) w.heap.size cells T:=⟨rfl,rfl⟩;exact FU k h (Vj (λc=>by obtain⟨_,o,d,e,i⟩:=Iy (a c);exact⟨o,d,e, .inl i⟩) (f _ _ b b.row) fb)
theorem Hc(k:Nat){f:FuncId}{args:Ξ}{R:Δ->Γ->Prop}(t:Calls P f args w λe w'=>∃v,e=ω v/\R v w')(u:∀v w',R v w'->HD r m P ds n Q (pv (au P n k w s) v) w')(c:∀fb,cr P n fb k w s=some (au P n k w s,w, .ok (.enter f args) w):=by intro _;kernel_rfl):HD r m P ds n Q s w:= .mk λfb=>by
 obtain⟨z,_⟩:=Iy (c fb);refine FU k z ?_;intro a b;obtain⟨_,o,d,i,y⟩:=Iy (c fb);obtain⟨ops,l,g,hd,p,q,j⟩:=KC i;rw[g];refine wpListIn_step λK A=>?_;rw[b.want,q,Ai rfl];refine⟨λf _=>trivial,?_⟩;rw[Oper.semAt_eq _ _ _ j,b.ev,y,Oper.uponIn_enter];refine⟨λh=>absurd h Ed,?_⟩;refine CallsIn.mono' (callsIn_fz.2 t) ?_;rintro e w'⟨v,rfl,x⟩;exact A _ _ (RK (u v w' x) g hd p b)
def ldA(fb:Nat->Δ)(t:Sta)(o:Oper):Option (TypeId×Δ):=match o.op with
 | .load T x=>some (T,ev t.e fb x)
 |_=>none
def cl(P:Program)(n:Nat)(fb:Nat->Δ)(k:Nat)(w:Γ)(s:Sta):Option (Sta×Γ×TypeId×Δ):=match ck P n fb k w s with
 |some x=>(ldA fb x.1 x.2.2.1).map λy=>(x.1,x.2.1,y)
 |none=>none
theorem ZN{k:Nat}{t:Sta}{T:TypeId}{p:Δ}(h:cl P n fb k w s=some (t,w,T,p)):∃o d x,ck P n fb k w s=some (t,w,o,d)/\o.op= .load T x/\ev t.e fb x=p:=by
 unfold cl at h;split at h
 ·rename_i y a;obtain⟨e,w1,o,d⟩:=y;unfold ldA at h;split at h
  ·rename_i c x b;cases h;exact⟨o,d,x,a,b,rfl⟩
  ·cases h
 ·cases h
def isCell(P:Program)(T:TypeId):Bool:=match P.underlying T with
 |some d=>match d with
  | .struct _| .array _ _=>false
  |_=>true
 |none=>false
theorem Hl(k:Nat){g:Nat}{cells:Ξ}{T0:TypeId}(t:Rw g w cells T0)(j:Nat)(T:TypeId)(v:Δ)(l:HD r m P ds n Q (pv (au P n k w s) v) w)(h:cells[j]?=some v:=by kernel_rfl)(a:isCell P T=true:=by kernel_rfl)
 (c:∀fb,cl P n fb k w s=some (au P n k w s,w,T,ψ g j):=by intro _;kernel_rfl):HD r m P ds n Q s w:= .mk λfb=>by
 obtain⟨o,d,x,b,_⟩:=ZN (c fb);refine FU k (Lc b).1 (Vj (λe=>?_) l fb);obtain⟨o,d,x,b,i,q⟩:=ZN (c e);refine⟨o,d,(Lc b).2, .inl ?_⟩;unfold isCell at a;split at a
 ·rename_i dd p;refine AY T x ⟨g,j,none⟩ v dd i q ?_ p ?_
  ·have f:w.heap[g]?=some (.cells cells T0 (0,0)):=t;simp[World.cell?,f,h]
  ·cases dd<;>first|rfl|cases a
 ·cases a
def ce(P:Program)(n:Nat)(fn:Func)(fb:Nat->Δ)(k:Nat)(w:Γ)(s:Sta):Option (Result Δ):=match it P n fb k w s with
 |some x=>match x.1.k with
  |[]=>match x.1.c with
   | .inr (.inl .ret)=>some ((resF (lkF x.1.e fb) fn.results).run P x.2)
   | .inr (.inl .normal)=>some ((resF (lkF x.1.e fb) fn.results).run P x.2)
   |_=>none
  |_=>none
 |none=>none
theorem Hr(k:Nat){fn:Func}{R:Ending->Γ->Prop}(v:Δ)(j:R (ω v) w)(i:∀fb,ce P n fn fb k w s=some (.ok v w):=by intro _;kernel_rfl)(l:∀fb,it P n fb k w s=some (au P n k w s,w):=by intro _;kernel_rfl):HD r m P [] n (bodyPost P fn R) s w:= .mk λfb=>by
 have f:=l fb;have b:=i fb;refine FU k f ?_;intro a d;unfold ce at b;rw[f]at b;simp only at b;have key:(resF (lkF (au P n k w s).e fb) fn.results).run P w= .ok v w->a.defers=[]/\∃v,(results fn a.tmps).run P w= .ok v w/\R (ω v) w:=λh=>by
  refine⟨d.df,v,?_,j⟩;rw[IQ,show(λt=>a.tmps.getD t undef)=lkF (au P n k w s).e fb from funext d.get];exact h
 split at b
 ·rename_i g;rw[g];split at b
  ·rename_i c;rw[c];exact key (BJ b)
  ·rename_i c;rw[c];exact key (BJ b)
  ·cases b
 ·cases b
def cf(P:Program)(n:Nat)(fb:Nat->Δ)(k:Nat)(w:Γ)(s:Sta):Option (Sta×Γ×Bool):=match it P n fb k w s with
 |some x=>some (x.1,x.2,match x.1.k with
  |[]=>match x.1.c with
   | .inr (.inl .ret)=>true
   | .inr (.inl .normal)=>true
   |_=>false
  |_=>false)
 |none=>none
theorem JI(k:Nat){fn:Func}{R:Ending->Γ->Prop}(v:Δ)(j:∀fb,(resF (lkF (au P n k w s).e fb) fn.results).run P w= .ok v w)(i:R (ω v) w)(g:∀fb,cf P n fb k w s=some (au P n k w s,w,true):=by intro _;kernel_rfl):HD r m P [] n (bodyPost P fn R) s w:= .mk λfb=>by
 have b:=g fb;unfold cf at b;split at b
 ·rename_i x o;obtain⟨t,w1⟩:=x;simp only[Cd,C5]at b;obtain⟨h,l,b⟩:=b;subst l;refine FU k o ?_;intro a d;have key:a.defers=[]/\∃v,(results fn a.tmps).run P w1= .ok v w1/\R (ω v) w1:=by
   refine⟨d.df,v,?_,i⟩;rw[IQ,show(λt=>a.tmps.getD t undef)=lkF t.e fb from funext d.get,h];exact j fb
  split at b
  ·rename_i f;rw[f];split at b
   ·rename_i c;rw[c];exact key
   ·rename_i c;rw[c];exact key
   ·cases b
  ·cases b
 ·cases b
def bd(fn:Func):Code:=match fn.body with
 |some c=>c
 |none=> .skip
def rg(id:Nat):Code->Option (Array Oper)
 | .region j ops _=>bif Nat.beq j id then some ops else none
 | .seq a b=>match rg id a with
  |some x=>some x
  |none=>rg id b
 | .cond _ a b=>match rg id a with
  |some x=>some x
  |none=>rg id b
 | .rangeFunc _ _ a b=>match rg id a with
  |some x=>some x
  |none=>rg id b
 | .block _ c=>rg id c
 | .loop c=>rg id c
 | .scope c=>rg id c
 |_=>none
def og(fn:Func)(id i:Nat):Oper:=match rg id (bd fn)with
 |some ops=>match ops[i]? with
  |some o=>o
  |none=>default
 |none=>default
theorem Ck{f:FuncId}{fn:Func}{args:Ξ}{R:Ending->Γ->Prop}(b:P.funcs[f]?=some fn)(n:Nat)
 (h:HD none 20 P [] n (bodyPost P fn R) ⟨.inl (bd fn),[],argE 0 args.toList⟩ w) (c:fn.body=some (bd fn):=by kernel_rfl) (e:args.size+(fn.ntmps-args.size)=n:=by kernel_rfl):Calls P f args w R:=UY b c n e λa d=>h.g _ a d.fm
def co(P:Program)(n:Nat)(fb:Nat->Δ)(k:Nat)(w:Γ)(s:Sta)(E:Env):Option (Cf×List Kf×Γ×List Δ):=match it P n fb k w s with
 |some x=>some (x.1.c,x.1.k,x.2,E.map λp=>lkF x.1.e fb p.1)
 |none=>none
theorem ZO{k:Nat}{E:Env}{c:Cf}{K:List Kf}{vs:List Δ}(h:co P n fb k w s E=some (c,K,w',vs)):∃t,it P n fb k w s=some (t,w')/\t.c=c/\t.k=K/\(E.map λp=>lkF t.e fb p.1)=vs:=by
 unfold co at h;split at h
 ·rename_i x a;obtain⟨t,w1⟩:=x;cases h;exact⟨t,a,rfl,rfl,rfl⟩
 ·cases h
theorem Fm.cov{a:Act}{e E:Env}(b:Fm ds n e fb a)(h:(E.map λp=>lkF e fb p.1)=E.map (·.2)):Frm ds n E a:=by
 refine⟨b.df,b.sz,λt=>?_⟩;have key:∀(E:Env),(E.map λp=>lkF e fb p.1)=E.map (·.2)->a.tmps.getD t undef=lkF E (λt=>a.tmps.getD t undef) t:=by
  intro E
  induction E with
  |nil=>intro _;rfl
  |cons p r f=>
   intro h;obtain⟨d,v⟩:=p;simp only[Bd,List.cons.injEq]at h;simp only[lkF];cases c:Nat.beq d t with
   |false=>simpa using f h.2
   |true=>
    have:=Eo c;subst this;simp only[cond_true];rw[b.get d];exact h.1
 exact key E h
def lc(t:Sta):Code:=match t.c with
 | .inl (.loop c)=>c
 |_=> .skip
theorem Ho{X:Type}(k:Nat)(E:X->Env)(R:X->Γ->Prop)(μ:X->Nat)(x0:X)(u:R x0 w)
 (d:∀x v,R x v->∀(I:Act->Γ->Prop),(∀(c:Nat)(b:X){s':Sta}{v':Γ},R b v'->μ b<μ x->(∀fb,co P n fb c v' s' (E b)=some (.inr (.inl .normal), .inr (.inr I)::(au P n k w s).k,v',(E b).map (·.2)))->HD r m P ds n Q s' v')->HD r m P ds n Q ⟨.inl (lc (au P n k w s)), .inr (.inr I)::(au P n k w s).k,E x⟩ v)
 (A:∀fb,co P n fb k w s (E x0)=some (.inl (.loop (lc (au P n k w s))),(au P n k w s).k,w,(E x0).map (·.2)):=by intro _;kernel_rfl):HD r m P ds n Q s w:= .mk λfb=>by
 obtain⟨t,G,q,y,D⟩:=ZO (A fb);refine FU k G ?_;intro a C;rw[q,y];refine K7 (λk a w=>∃x,μ x=k/\Frm ds n (E x) a/\R x w) (μ x0) ⟨x0,rfl,C.cov D,u⟩ ?_;rintro j a v⟨x,rfl,H,F⟩;refine(d x v F (λa' w'=>∃c,c<μ x/\∃b,μ b=c/\Frm ds n (E b) a'/\R b w') ?_).g _ a H.fm;intro c b s' v' l f i;refine .mk λe=>?_;obtain⟨t',p,B,z,o⟩:=ZO (i e);refine FU c p ?_;intro a' h;rw[B,z];exact⟨μ b,f,b,rfl,h.cov o,l⟩
theorem Ha(k:Nat)(o:Oper)(g j:Nat)(v:Δ)(c:∀fb,(execOp (ev (au P n k w s).e fb) o).run P w= .ok .skip (w.setCell ⟨g,j,none⟩ v))(b:∀w',Set1 w w' g j v->HD r m P ds n Q (pv (au P n k w s) undef) w')(a:∀fb,ck P n fb k w s=some (au P n k w s,w,o,none):=by intro _;kernel_rfl):HD r m P ds n Q s w:=Hs k o c (b _ ⟨rfl⟩) a
theorem Hy(k:Nat)(o:Oper)(g:Nat)(cells:Ξ)(c:∀fb,(execOp (ev (au P n k w s).e fb) o).run P w= .ok .skip (w.setRow g cells))(b:∀w',Put w w' g cells->HD r m P ds n Q (pv (au P n k w s) undef) w')(a:∀fb,ck P n fb k w s=some (au P n k w s,w,o,none):=by intro _;kernel_rfl):HD r m P ds n Q s w:=Hs k o c (b _ ⟨rfl⟩) a
theorem M6(k:Nat)(cells:Ξ)(T:TypeId)(c:Nat)(h:∀w' g,New w w' g cells T->Rw g w' cells T->HD r m P ds n Q (pv (au P n k w s) (σ (ζ g 0) c c)) w')(a:∀fb,cr P n fb k w s=some (au P n k w s,w, .ok (.value (σ (some ⟨w.heap.size,0,none⟩) c c)) (w.alloc (.cells cells T))):=by intro _;kernel_rfl):HD r m P ds n Q s w:= .mk λfb=>by
 obtain⟨i,_⟩:=Iy (a fb);have b:New w (w.alloc (.cells cells T)) w.heap.size cells T:=⟨rfl,rfl⟩;exact FU k i (Vj (λe=>by obtain⟨_,o,d,f,j⟩:=Iy (a e);exact⟨o,d,f, .inl j⟩) (h _ _ b b.row) fb)
theorem Hm(k:Nat)(o:Oper)(f:FuncId)(args:Ξ)(x:∀fb,(execOp (ev (au P n k w s).e fb) o).run P w= .ok (.enter f args) w){R:Δ->Γ->Prop}(q:Calls P f args w λe w'=>∃v,e=ω v/\R v w')(t:∀v w',R v w'->HD r m P ds n Q (pv (au P n k w s) v) w')(p:∀fb,ck P n fb k w s=some (au P n k w s,w,o,o.dst):=by intro _;kernel_rfl):HD r m P ds n Q s w:= .mk λfb=>by
 obtain⟨y,d⟩:=Lc (p fb);refine FU k y ?_;intro a b;obtain⟨ops,l,c,hd,i,j,g⟩:=KC d;rw[c];refine wpListIn_step λK z=>?_;rw[b.want,j,Ai rfl];refine⟨λf _=>trivial,?_⟩;rw[Oper.semAt_eq _ _ _ g,b.ev,x,Oper.uponIn_enter];refine⟨λh=>absurd h Ed,?_⟩;refine CallsIn.mono' (callsIn_fz.2 q) ?_;rintro e w'⟨v,rfl,u⟩;exact z _ _ (RK (t v w' u) c rfl i b)
end
structure Dt where
 o:Array Oper
 l:Array Bool
 f:Nat
 k:List Kf
 e:Env
theorem GH{r:Option Nat}{m:Nat}{P:Program}{Q:Exit->Act->Γ->Prop}{b:List PanicEntry}{a:Act}{w:Γ}:∀(k:List Kf),Qs r m P Q k (.panic b) a w↔Q (.panic b) a w
 |[]=>Iff.rfl
 | .inl c::k=>GH (r:=r) (m:=m) (P:=P) k
 | .inr (.inl d)::k=>GH (r:=r) (m:=m) (P:=P) k
 | .inr (.inr I)::k=>GH (r:=r) (m:=m) (P:=P) k
section
variable {r : Option Nat} {m : Nat} {P : Program} {ds : List Deferred} {n : Nat} {Q : Exit → Act → World → Prop} {w w' : World} {s : Sta} {t t' : Dt} {fb : Nat → Value} {S : World → Prop}
structure Dh(r:Option Nat)(m:Nat)(P:Program)(ds:List Deferred)(n:Nat)(Q:Exit->Act->Γ->Prop)(S:Γ->Prop)(t:Dt)(w:Γ):Prop where
 g:∀fb a,Fm ds n t.e fb a->wpAnyH P .any t.o (Qs r m P Q t.k) S t.f t.l a w
def d0(s:Sta):Dt:=match s.c with
 | .inl (.region _ ops _)=>⟨ops,Array.replicate ops.size false,ops.size,s.k,s.e⟩
 |_=>⟨#[],#[],0,s.k,s.e⟩
def isD(s:Sta):Bool:=match s.c with
 | .inl (.region _ _ d)=>d
 |_=>false
theorem Fq(k:Nat)(S:Γ->Prop)(j:S w.drew)(h:Dh none m P ds n Q S (d0 (au P n k w s)) w.drew)(g:P.follows .mixedOrders=true:=by kernel_rfl)(hd:isD (au P n k w s)=true:=by kernel_rfl)
 (i:∀fb,it P n fb k w s=some (au P n k w s,w):=by intro _;kernel_rfl):HD none m P ds n Q s w:= .mk λfb=>by
 refine FU k (i fb) ?_;intro a b;have h:=h.g fb a
 revert h hd b
 generalize au P n k w s=x;obtain⟨c,kk,e⟩:=x;intro hd b h;rcases c with c|y|z
 ·cases c with
  |region l ops d=>
   have f:d=true:=hd;subst f;exact wpIn_wide.2 (Cj g j (λ_=>h b))
  |_=>cases hd
 ·cases hd
 ·cases hd
def dpv(t:Dt)(i:Nat)(v:Δ):Dt:=⟨t.o,t.l.setIfInBounds i true,t.f-1,t.k,match(t.o[i]?).bind (·.dst)with|some d=>(d,v)::t.e|none=>t.e⟩
def dk(fr:Bool)(n:Nat)(fb:Nat->Δ)(t:Dt)(i:Nat):Option (Oper×Bool):=match t.o[i]? with
 |some o=>bif Nat.blt 0 t.f&&(!fr||tkOk t.o t.l i)&&noDefer o&&(match o.dst with|some d=>Nat.blt d n|none=>true)then some (o,Region.wanted o (yF t.o t.e fb))else none
 |none=>none
theorem M7{i:Nat}{o:Oper}{b e:Bool}(h:dk e n fb t i=some (o,b)):t.o[i]?=some o/\0<t.f/\(e=true->tkOk t.o t.l i=true)/\(∀c,o.op≠ .defer c)/\(∀d,o.dst=some d->d<n)/\Region.wanted o (yF t.o t.e fb)=b:=by
 unfold dk at h;split at h
 ·rename_i f j;cases a:(Nat.blt 0 t.f&&(!e||tkOk t.o t.l i)&&noDefer f&&(match f.dst with|some d=>Nat.blt d n|none=>true))with
  |false=>rw[a]at h;cases h
  |true=>
   rw[a]at h;cases h;simp only[BZ]at a;exact⟨j,by simpa[Nat.blt_eq]using a.1.1.1,λg=>by have:=a.1.1.2;rw[g]at this;simpa using this,Ft a.1.2,λd hd=>by have:=a.2;rw[hd]at this;simpa[Nat.blt_eq]using this,rfl⟩
 ·cases h
theorem JJ{i:Nat}{o:Oper}{v:Δ}{a:Act}(f:t.o[i]?=some o)(hd:∀d,o.dst=some d->d<n)(b:Fm ds n t.e fb a):Fm ds n (dpv t i v).e fb (a.put o.dst v):=by
 unfold dpv;simp only[f,Option.bind_some];cases c:o.dst with
 |none=>exact b
 |some d=>exact b.put (hd d c) v
theorem NA{i:Nat}{o:Oper}{v:Δ}{b:Bool}(A:dk true n fb t i=some (o,b))(z:∀c a d v w,Q (.panic c) (Act.put a (some d) v) w->Q (.panic c) a w)(C:S w)
 (x:b=true->∀u,S u->(execOp (ev t.e fb) o).run P u= .ok (.value v) u) (s:b=false->v=undef)
 (h:∀a,Fm ds n (dpv t i v).e fb a->wpAnyH P .any t.o (Qs r m P Q t.k) S (t.f-1) (t.l.setIfInBounds i true) a w):∀a,Fm ds n t.e fb a->wpAnyH P .any t.o (Qs r m P Q t.k) S t.f t.l a w:=by
 intro a j;obtain⟨l,E,g,D,p,k⟩:=M7 A;have g:=g rfl;unfold tkOk at g;simp only[BZ]at g;obtain⟨f,q⟩:∃f,t.f=f+1:=⟨t.f-1,by omega⟩;have h:=h _ (JJ l p j);rw[q]at h⊢;refine wpAnyH_take l g.1.1 g.1.2 g.2 (v:=v) (λc F w1 B=>(GH _).2 (by have:=(GH _).1 B;revert this;cases o.dst with|none=>exact id|some d=>exact z _ _ _ _ _)) ?_ C h;cases b with
 |true=>exact Or.inl ⟨by rw[j.want];exact k,λu y=>by rw[j.ev];exact x rfl u y⟩
 |false=>exact Or.inr ⟨by rw[j.want];exact k,s rfl⟩
def tv(P:Program)(n:Nat)(w:Γ)(t:Dt)(i:Nat):Δ:=match dk true n (λ_=>undef) t i with
 |some x=>bif x.2 then match(execOp (ev t.e λ_=>undef) x.1).run P w with
   | .ok (.value v) _=>v
   |_=>undef
  else undef
 |none=>undef
def td(P:Program)(n:Nat)(w:Γ):List Nat->Dt->Dt
 |[],t=>t
 |i::l,t=>td P n w l (dpv t i (tv P n w t i))
def tc(P:Program)(n:Nat)(fb:Nat->Δ)(u w:Γ):List Nat->Dt->List (Option (Result Next))
 |[],_=>[]
 |i::l,t=>((dk true n fb t i).map λx=>bif x.2 then(execOp (ev t.e fb) x.1).run P u else .ok (.value undef) u)::tc P n fb u w l (dpv t i (tv P n w t i))
def te(P:Program)(n:Nat)(u w:Γ):List Nat->Dt->List (Option (Result Next))
 |[],_=>[]
 |i::l,t=>some (.ok (.value (tv P n w t i)) u)::te P n u w l (dpv t i (tv P n w t i))
theorem Xbs(C:∀c a d v w,Q (.panic c) (Act.put a (some d) v) w->Q (.panic c) a w)(B:S w)(x:Γ):∀(l:List Nat){t:Dt},(∀u,tc P n fb u x l t=te P n u x l t)->(∀a,Fm ds n (td P n x l t).e fb a->wpAnyH P .any (td P n x l t).o (Qs r m P Q (td P n x l t).k) S (td P n x l t).f (td P n x l t).l a w)->∀a,Fm ds n t.e fb a->wpAnyH P .any t.o (Qs r m P Q t.k) S t.f t.l a w:=by
 intro l
 induction l with
 |nil=>intro t _ p;exact p
 |cons i l z=>
  intro t h p;have g:∀u,((dk true n fb t i).map λx=>bif x.2 then(execOp (ev t.e fb) x.1).run P u else .ok (.value undef) u)=some (.ok (.value (tv P n x t i)) u):=λu=>(List.cons.inj (h u)).1;have A:=z (t:=dpv t i (tv P n x t i)) (λu=>(List.cons.inj (h u)).2) p;cases j:dk true n fb t i with
  |none=>have:=g w;rw[j]at this;cases this
  |some y=>
   obtain⟨o,b⟩:=y;rw[j]at g;refine NA (v:=tv P n x t i) j C B (λq u _=>?_) (λq=>?_) A
   ·have:=BJ (g u);rw[q]at this;exact this
   ·have:=BJ (g w);rw[q]at this;simp only[cond_false]at this;injection this with s;injection s with D;exact D.symm
theorem XbJ(l:List Nat)(f:S w)(h:Dh r m P ds n Q S (td P n w l t) w)(b:∀fb u,tc P n fb u w l t=te P n u w l t:=by intro _ _;kernel_rfl)(e:∀c a d v w,Q (.panic c) (Act.put a (some d) v) w->Q (.panic c) a w:=by exact λ_ _ _ _ _ h=>h):Dh r m P ds n Q S t w:= .mk λfb=>Xbs e f w l (b fb) (h.g fb)
theorem Dx(l:List Nat)(i:Nat)(o:Oper)(v:Δ)(j:∀u,S u->∀fb,(execOp (ev (td P n w l t).e fb) o).run P u= .ok (.value v) u)(f:S w)(h:Dh r m P ds n Q S (dpv (td P n w l t) i v) w)(g:∀fb u,tc P n fb u w l t=te P n u w l t:=by intro _ _;kernel_rfl)
 (p:∀fb,dk true n fb (td P n w l t) i=some (o,true):=by intro _;kernel_rfl) (b:∀c a d v w,Q (.panic c) (Act.put a (some d) v) w->Q (.panic c) a w:=by exact λ_ _ _ _ _ h=>h):Dh r m P ds n Q S t w:=
 XbJ l f (.mk λfb=>NA (p fb) b f (λ_ u k=>j u k fb) (λh=>by cases h) (h.g fb)) g b
structure Ah(r:Option Nat)(m:Nat)(P:Program)(ds:List Deferred)(n:Nat)(Q:Exit->Act->Γ->Prop)(S:Γ->Prop)(t:Dt)(w:Γ)(rs:List Nat):Prop where
 g:∀fb a,Fm ds n t.e fb a->AllReadyH P .any t.o (Qs r m P Q t.k) S (t.f-1) t.l a w rs
theorem Dy(l:List Nat)(rs:List Nat)(p:S w)(h:Ah r m P ds n Q S (td P n w l t) w rs)(g:∀fb u,tc P n fb u w l t=te P n u w l t:=by intro _ _;kernel_rfl)
 (b:(Region.ready .any (td P n w l t).o (td P n w l t).l,Nat.blt 0 (td P n w l t).f,rs.isEmpty)=(rs,true,false):=by kernel_rfl) (k:∀c a d v w,Q (.panic c) (Act.put a (some d) v) w->Q (.panic c) a w:=by exact λ_ _ _ _ _ h=>h):Dh r m P ds n Q S t w:=
 XbJ l p (.mk λfb a j=>by
  have h:=h.g fb a j
  revert h b
  generalize td P n w l t=x;intro b h;simp only[C5]at b
  obtain⟨f,i⟩:∃f,x.f=f+1:=⟨x.f-1,by have:0<x.f:=by simpa[Nat.blt_eq]using b.2.1
                                    omega⟩
  rw[i]at h⊢;exact AD b.1 (by intro e;rw[e]at b;exact absurd b.2.2 (by decide)) h) g k
theorem Dq(l:List Nat)(j:S w)(h:HD r m P ds n Q ⟨.inr (.inl .normal),(td P n w l t).k,(td P n w l t).e⟩ w)(f:∀fb u,tc P n fb u w l t=te P n u w l t:=by intro _ _;kernel_rfl)
 (b:Region.ready .any (td P n w l t).o (td P n w l t).l=[]:=by kernel_rfl) (i:∀c a d v w,Q (.panic c) (Act.put a (some d) v) w->Q (.panic c) a w:=by exact λ_ _ _ _ _ h=>h):Dh r m P ds n Q S t w:=
 XbJ l j (.mk λfb a g=>Cq b (h.g fb a g) _) f i
theorem Do(h:HD r m P ds n Q ⟨.inr (.inl .normal),t.k,t.e⟩ w)(c:Region.ready .any t.o t.l=[]:=by kernel_rfl):Dh r m P ds n Q S t w:= .mk λfb a b=>Cq c (h.g fb a b) _
theorem Dz(rs:List Nat)(h:Ah r m P ds n Q S t w rs)(b:(Region.ready .any t.o t.l,Nat.blt 0 t.f,rs.isEmpty)=(rs,true,false):=by kernel_rfl):Dh r m P ds n Q S t w:= .mk λfb a d=>by
 have h:=h.g fb a d
 revert h b
 generalize t=x;intro b h;simp only[C5]at b;have g:0<x.f:=by simpa[Nat.blt_eq]using b.2.1
 obtain⟨f,c⟩:∃f,x.f=f+1:=⟨x.f-1,by omega⟩;rw[c]at h⊢;exact AD b.1 (by intro e;rw[e]at b;exact absurd b.2.2 (by decide)) h
theorem Dl(l:List Nat)(i:Nat){g:Nat}{cells:Ξ}{T0:TypeId}(D:∀u,S u->Rw g u cells T0)(j:Nat)(T:TypeId)(v:Δ)(q:S w)(h:Dh r m P ds n Q S (dpv (td P n w l t) i v) w)(B:cells[j]?=some v:=by kernel_rfl)(p:isCell P T=true:=by kernel_rfl)
 (F:∀fb,((dk true n fb (td P n w l t) i).map λx=>(x.2,ldA fb ⟨.inr (.inl .normal),[],(td P n w l t).e⟩ x.1))=some (true,some (T,ψ g j)):=by intro _;kernel_rfl)
 (k:∀fb u,tc P n fb u w l t=te P n u w l t:=by intro _ _;kernel_rfl) (s:∀c a d v w,Q (.panic c) (Act.put a (some d) v) w->Q (.panic c) a w:=by exact λ_ _ _ _ _ h=>h):Dh r m P ds n Q S t w:=
 XbJ l q (.mk λfb=>by
  have f:=F fb;cases k:dk true n fb (td P n w l t) i with
  |none=>rw[k]at f;cases f
  |some y=>
   obtain⟨o,b⟩:=y;rw[k]at f;simp only[B7,Cd,C5]at f;obtain⟨rfl,f⟩:=f;refine NA k s q (λ_ u E=>?_) (λh=>by cases h) (h.g fb);unfold ldA at f;split at f
   ·rename_i C x G;simp only[Cd,C5]at f;obtain⟨rfl,f⟩:=f;unfold isCell at p;split at p
    ·rename_i dd z;have A:u.heap[g]?=some (.cells cells T0 (0,0)):=D u E;refine AY C x ⟨g,j,none⟩ v dd G ?_ ?_ z ?_
     ·exact f
     ·simp[World.cell?,A,B]
     ·cases dd<;>first|rfl|cases p
    ·cases p
   ·cases f) k s
theorem yn:Ah r m P ds n Q S t w []:= .mk λfb a b=>AB
section
variable {rs : List Nat}
theorem Yx(i:Nat)(o:Oper)(v:Δ)(g:∀fb,(execOp (ev t.e fb) o).run P w= .ok (.value v) w')(f:S w')(h:Dh r m P ds n Q S (dpv t i v) w')(k:Ah r m P ds n Q S t w rs)(l:∀fb,dk false n fb t i=some (o,true):=by intro _;kernel_rfl):Ah r m P ds n Q S t w (i::rs):= .mk λfb a b=>by
 obtain⟨c,q,_,p,d,e⟩:=M7 (l fb);refine D9 c (λK j=>?_) (k.g fb a b);rw[b.want,e,Ai rfl];unfold Oper.wp;rw[b.ev,g,Oper.upon_value];exact j _ _ f (λ_=>h.g _ _ (JJ c d b))
theorem Ys(i:Nat)(o:Oper)(g:∀fb,(execOp (ev t.e fb) o).run P w= .ok .skip w')(f:S w')(h:Dh r m P ds n Q S (dpv t i undef) w')(k:Ah r m P ds n Q S t w rs)(l:∀fb,dk false n fb t i=some (o,true):=by intro _;kernel_rfl)(q:o.dst=none:=by kernel_rfl):Ah r m P ds n Q S t w (i::rs):= .mk λfb a b=>by
 obtain⟨c,_,_,p,d,e⟩:=M7 (l fb);refine D9 c (λK j=>?_) (k.g fb a b);rw[b.want,e,Ai rfl];unfold Oper.wp;rw[b.ev,g,Oper.upon_skip];exact j _ _ f (λ_=>h.g _ _ (JJ c d b))
def dr(P:Program)(n:Nat)(fb:Nat->Δ)(w:Γ)(t:Dt)(i:Nat):Option (Bool×Result Next):=(dk false n fb t i).map λx=>(x.2,(execOp (ev t.e fb) x.1).run P w)
theorem ZP{i:Nat}{b:Bool}{x:Result Next}(h:dr P n fb w t i=some (b,x)):∃o,dk false n fb t i=some (o,b)/\(execOp (ev t.e fb) o).run P w=x:=by
 unfold dr at h;cases a:dk false n fb t i with
 |none=>rw[a]at h;cases h
 |some y=>rw[a]at h;cases h;exact⟨_,rfl,rfl⟩
theorem Yv(i:Nat)(v:Δ)(g:S w')(h:Dh r m P ds n Q S (dpv t i v) w')(l:Ah r m P ds n Q S t w rs)(p:∀fb,dr P n fb w t i=some (true, .ok (.value v) w'):=by intro _;kernel_rfl):Ah r m P ds n Q S t w (i::rs):= .mk λfb a b=>by
 obtain⟨o,f,j⟩:=ZP (p fb);obtain⟨c,s,_,q,d,e⟩:=M7 f;refine D9 c (λK k=>?_) (l.g fb a b);rw[b.want,e,Ai rfl];unfold Oper.wp;rw[b.ev,j,Oper.upon_value];exact k _ _ g (λ_=>h.g _ _ (JJ c d b))
theorem ZQ(i:Nat)(cells:Ξ)(T:TypeId)(c:Nat)(e:∀w' g,New w w' g cells T->S w')(h:∀w' g,New w w' g cells T->Rw g w' cells T->Dh r m P ds n Q S (dpv t i (σ (ζ g 0) c c)) w')(b:Ah r m P ds n Q S t w rs)(d:∀fb,dr P n fb w t i=some (true, .ok (.value (σ (some ⟨w.heap.size,0,none⟩) c c)) (w.alloc (.cells cells T))):=by intro _;kernel_rfl):Ah r m P ds n Q S t w (i::rs):=
 have a:New w (w.alloc (.cells cells T)) w.heap.size cells T:=⟨rfl,rfl⟩
 Yv i _ (e _ _ a) (h _ _ a a.row) b d
theorem Ya(i:Nat)(o:Oper)(g j:Nat)(v:Δ)(e:∀fb,(execOp (ev t.e fb) o).run P w= .ok .skip (w.setCell ⟨g,j,none⟩ v))(d:∀w',Set1 w w' g j v->S w')(h:∀w',Set1 w w' g j v->Dh r m P ds n Q S (dpv t i undef) w')(b:Ah r m P ds n Q S t w rs)(c:∀fb,dk false n fb t i=some (o,true):=by intro _;kernel_rfl)(a:o.dst=none:=by kernel_rfl):Ah r m P ds n Q S t w (i::rs):=Ys i o e (d _ ⟨rfl⟩) (h _ ⟨rfl⟩) b c a
theorem Yy(i:Nat)(o:Oper)(g:Nat)(cells:Ξ)(e:∀fb,(execOp (ev t.e fb) o).run P w= .ok .skip (w.setRow g cells))(d:∀w',Put w w' g cells->S w')(h:∀w',Put w w' g cells->Dh r m P ds n Q S (dpv t i undef) w')(b:Ah r m P ds n Q S t w rs)(c:∀fb,dk false n fb t i=some (o,true):=by intro _;kernel_rfl)(a:o.dst=none:=by kernel_rfl):Ah r m P ds n Q S t w (i::rs):=Ys i o e (d _ ⟨rfl⟩) (h _ ⟨rfl⟩) b c a
theorem Ym(i:Nat)(o:Oper)(f:FuncId)(args:Ξ)(q:∀fb,(execOp (ev t.e fb) o).run P w= .ok (.enter f args) w){R:Δ->Γ->Prop}(p:Calls P f args w λe w'=>∃v,e=ω v/\R v w')(k:∀v w',R v w'->S w')(h:∀v w',R v w'->Dh r m P ds n Q S (dpv t i v) w')(u:Ah r m P ds n Q S t w rs)(x:∀fb,dk false n fb t i=some (o,true):=by intro _;kernel_rfl):Ah r m P ds n Q S t w (i::rs):= .mk λfb a b=>by
 obtain⟨c,z,_,y,j,l⟩:=M7 (x fb);refine D9 c (λK s=>?_) (u.g fb a b);rw[b.want,l,Ai rfl];unfold Oper.wp;rw[b.ev,q,Oper.upon_enter];refine p.mono ?_;rintro e w'⟨v,rfl,d⟩;exact s _ _ (k v w' d) (λ_=>(h v w' d).g _ _ (JJ c j b))
theorem Yc(i:Nat){f:FuncId}{args:Ξ}{R:Δ->Γ->Prop}(p:Calls P f args w λe w'=>∃v,e=ω v/\R v w')(k:∀v w',R v w'->S w')(h:∀v w',R v w'->Dh r m P ds n Q S (dpv t i v) w')(s:Ah r m P ds n Q S t w rs)(u:∀fb,dr P n fb w t i=some (true, .ok (.enter f args) w):=by intro _;kernel_rfl):Ah r m P ds n Q S t w (i::rs):= .mk λfb a b=>by
 obtain⟨o,x,q⟩:=ZP (u fb);obtain⟨c,A,_,z,j,l⟩:=M7 x;refine D9 c (λK y=>?_) (s.g fb a b);rw[b.want,l,Ai rfl];unfold Oper.wp;rw[b.ev,q,Oper.upon_enter];refine p.mono ?_;rintro e w'⟨v,rfl,d⟩;exact y _ _ (k v w' d) (λ_=>(h v w' d).g _ _ (JJ c j b))
end
end
def rfB:Code->Option Code
 | .rangeFunc _ _ _ b=>some b
 | .seq a b=>match rfB a with
  |some x=>some x
  |none=>rfB b
 | .cond _ a b=>match rfB a with
  |some x=>some x
  |none=>rfB b
 | .block _ c=>rfB c
 | .loop c=>rfB c
 | .scope c=>rfB c
 |_=>none
def rfBd(fn:Func):Code:=match rfB (bd fn)with
 |some c=>c
 |none=> .skip
section
variable {r : Option Nat} {m : Nat} {P : Program} {ds : List Deferred} {n : Nat} {Q : Exit → Act → World → Prop} {w : World} {s : Sta}
end
theorem EX(b:Sk K w a n c p)(d:Sk K' w a' n' c' q):
 κ 47 #[σ a n c,σ a' n' c'] w λu w'=>u=β (decide (p=q))/\Bl w w':=by
 have e:=Bl.refl w;refine Ck func47 10<|Hx 8 (og f47 1 1) (.string (strOfNums p)) (λ_=>b.run_str _ _ _ rfl (by kernel_rfl))<|Hx 1 (og f47 1 3) (.string (strOfNums q)) (λ_=>d.run_str _ _ _ rfl (by kernel_rfl))<|Hx 0 (og f47 1 4) (β (decide (p=q))) (λ_=>Qj 9 _ _ _ _ _ rfl (by kernel_rfl) (by kernel_rfl) (N5 b.ag.b d.ag.b))<|Hp 0 (β (decide (p=q))) ?_;exact Hr 3 (β (decide (p=q))) ⟨_,rfl,rfl,e⟩
theorem Iz(e:Sk K w a n c p)(d:Sk K' w a' n' c' q):
 κ 140 #[σ a n c,σ a' n' c'] w λu w'=>u=β (decide (p.take q.length=q))/\Bl w w':=by
 have b:=Bl.refl w;have o:=e.len;have j:=d.len;refine Ck func140 18<|Hp 11 (β (decide ((n:Int)>=(n':Int))))<|Hp 0 (β (decide ((n:Int)>=(n':Int)))) ?_;cases m:(decide ((n:Int)>=(n':Int)))with
 |true=>
  obtain⟨i,k,l,g,h⟩:=e.cutTo n' (by simp only[Co,ge_iff_le]at*;omega);refine Hx 3 (og f140 1 9) (σ i k l) (λ_=>g _ _ _ _ _ _ rfl (by kernel_rfl) (by kernel_rfl) rfl)<|Hc 1 (R:=λu w'=>u=β (decide (p.take n'=q))/\Bl (w) w') ((EX h d)) ?_;rintro _ r⟨rfl,f⟩;refine Hp 0 (β (decide (p.take n'=q)))<|Hp 0 (β (decide (p.take n'=q))) ?_;replace b:=b.go f;exact Hr 3 (β (decide (p.take n'=q))) ⟨_,rfl,by rw[j],b⟩
 |false=>
  exact Hr 11 (β false) ⟨_,rfl,by rw[Tg (by simp only[decide_eq_false_iff_not,ge_iff_le]at*;omega)],b⟩
theorem Mn(f:Sk K w a n c p)(i:Sk K' w a' n' c' q):
 κ 215 #[σ a n c,σ a' n' c'] w λu w'=>∃l o c2 b,u=θ #[σ l o c2,β b]/\b=decide (p.take q.length=q)/\(p.take q.length=q->Sk K w' l o c2 (p.drop q.length))/\Bl w w':=by
 have d:=Bl.refl w;have v:=f.len;have t:=i.len;refine Ck func215 15<|Hc 11 (R:=λu w'=>u=β (decide (p.take q.length=q))/\Bl (w) w') ((Iz f i)) ?_;rintro _ x⟨rfl,g⟩;refine Hp 0 (β (!(decide (p.take q.length=q)))) ?_;cases h:(decide (p.take q.length=q))with
 |true=>
  replace f:=f.go g;obtain⟨m,k,j,r,s⟩:=f.cutFrom n' (by have e:=Ao List.length (B6 h);rw[Ap]at e;omega);refine Hx 10 (og f215 3 3) (σ m k j) (λ_=>r _ _ _ _ _ _ rfl (by kernel_rfl) (by kernel_rfl) rfl) ?_;replace d:=d.go g;exact Hr 5 (θ #[σ m k j,β true]) ⟨_,rfl,_,_,_,_,rfl,rfl,λ_=>by rw[t];exact s,d⟩
 |false=>
  replace d:=d.go g;exact Hr 12 (θ #[σ a n c,β false]) ⟨_,rfl,_,_,_,_,rfl,rfl,λe=>absurd e (CU h),d⟩
theorem Qp(d:Sk K w none 0 0 p):
 κ 33 #[ε] w λu w'=>∃a c c2,u=σ a c c2/\Sk (λb=>w.heap.size<=b) w' a c c2 p/\Bl w w':=by
 have f:=Bl.refl w;refine Ck func33 8 ?_;exact Hr 20 (ε) ⟨_,rfl,none,0,0,rfl,by have e:p=[]:=Aw d.len;subst e;exact Sk.nil _ _,f⟩
theorem Qq{ad:Addr}(d:Sk K w (some ad) n c p)(y:n<=1000000):
 κ 33 #[σ (some ad) n c] w λu w'=>∃g h c2,u=σ g h c2/\Sk (λb=>w.heap.size<=b) w' g h c2 p/\Bl w w':=by
 have e:=Bl.refl w;refine Ck func33 8<|M6 17 #[] 5 0 ?_;intro w1 f a _;have s:=e.size;have r:OwnB w1 f (σ (ζ f 0) 0 0) []:=by rw[a.hw,a.hg];exact OwnB.new _
 have v:=a.size;have t:=a.hg;replace d:=d.go a.below;obtain⟨q,z,j,i,l⟩:=Gx r d.ag (by simp;omega) (by omega);refine Hx 1 (og f33 3 2) q (λ_=>I7 j _ _ rfl (by kernel_rfl) (by kernel_rfl)) ?_;obtain⟨m,o,rfl,k⟩:=i.sk (K:=λb=>w.heap.size<=b) (by simpa using d.ag.b) (λb x=>by omega);replace e:=e.go a.below;exact Hr 4 (σ m ([]++p).length o) ⟨_,rfl,_,_,_,rfl,k,e.trans (l.mono (by omega))⟩
theorem EY(d:Sk K w a n c p)(g:n<=1000000):
 κ 33 #[σ a n c] w λu w'=>∃e f c2,u=σ e f c2/\Sk (λb=>w.heap.size<=b) w' e f c2 p/\Bl w w':=by
 cases a with
 |none=>obtain⟨rfl,rfl⟩:=d.ag.nil rfl;exact Qp d
 |some ad=>exact Qq d g
end
end Go.Proofs.YtkdlocloepbmcaaGreat
