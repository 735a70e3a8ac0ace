/- What Right answers. -/
import Derived.Test.YtkdlocloepbmcaaGreatG11
set_option linter.unusedVariables false
set_option linter.unusedSimpArgs false
set_option maxRecDepth 100000
set_option maxHeartbeats 8000000
open Go.Proofs.Tryz Go.RowKit
namespace Go.Proofs.YtkdlocloepbmcaaGreat
namespace Ni
theorem right_any(a:Ω)(n c:Nat)(b:τ)(w:Γ)(h:Ag w a n c b)(I:n<=140737488355328):
 Calls prog 153 #[σ a n c] w λe w'=>e=ω (β (rightP b))/\w'=w:=by
 have f:=Aa h.l;have HC:Hid (0<n->∃g off,a=some ⟨g,off,none⟩/\n<=c/\c<=maxLen/\∀j,j<n->w.cell? ⟨g,off+j,none⟩=some (η (b.getD j 0))):=Aa (ag_head h);have D:=Aa h.b;clear h;obtain⟨m,d⟩:∃r,rightP b=r:=⟨_,rfl⟩;rw[d];have k:=Aa d;clear d;go_enter func153,ntmps153;go_wp2_with fail
 go_loopw [7] (λi v=>∃j:Nat,j<=n/\i=ι j/\(∀i,i<j->b.getD i 0<=15)/\v=w) (λi _=>n-(intOf i).toNat)
 case atStart=>exact⟨0,by omega,rfl,λi t=>by omega,rfl⟩
 case round=>
  obtain⟨j,J,rfl,q,rfl⟩:=hrel;have p:=Aa q;clear q;by_cases A:j<n
  ·obtain⟨g,off,rfl,F,B,l⟩:=HC.out (by omega);unfold maxLen at B;have z:=l j A;have u:=D.out _ (getD_mem (show j<b.length by have:=f.out;omega));have y:Hid (b.getD j 0>15->rightP b=false):=Aa (λh=>OE (by have:=f.out;omega) h)
   have s:Hid (b.getD j 0<=15->∀i,i<j+1->b.getD i 0<=15):=Aa (λh i t=>by
    by_cases e:i=j
    ·rw[e];exact h
    ·exact p.out i (by omega))
   generalize b.getD j 0=x at z u y s;obtain⟨G,H⟩:=u;have C:(j:Int)<n:=(by omega);clear l;by_cases o:x>15
   ·have e:m=false:=k.out.symm.trans (y.out o);subst e;go_wp2_with fail;go_ret;exact⟨rfl,rfl⟩
   ·have E:¬x>15:=o;go_wp2_with fail;exact⟨⟨j+1,by omega,by simp,s.out (by omega),trivial⟩,by simp[intOf];omega⟩
  ·have C:¬(j:Int)<n:=(by omega);have e:m=true:=k.out.symm.trans (Mw λi t=>p.out i (by have:=f.out;omega));subst e;go_wp2_with fail;go_ret;exact⟨rfl,rfl⟩
end Ni
section
variable {w v' : World} {ys : List V} {y : V} {x : NV}
theorem Ms(K:Θ)(x:NV)(n:PN)(w:Γ)(h:NodeAt K w x n):
 Calls prog 122 #[γ x.cells.toArray] w λe w'=>e=ω (β (rpathP n))/\Λ w w':=by
 have B:=EC w x h.c.len;have c:=Aa (below_new w (.cells x.cells.toArray 121));have u:=h.k;have k:=h.p;have A:=k.2.1;have y:=Aa k.l;have o:=Aa (show∀v,Λ w v->Calls prog 153 #[σ x.pa x.pn x.pc] v λe w'=>e=ω (β (Ni.rightP n.p))/\w'=v from λv z=>Ni.right_any _ _ _ _ v (k.1.at z) (by omega));obtain⟨s,m⟩:∃s,Ni.rightP n.p=s:=⟨_,rfl⟩;obtain⟨r,g⟩:∃r,rpathP n=r:=⟨_,rfl⟩;rw[g];unfold rpathP at g;rw[y.out,m,<-u]at g;rw[m]at o;have d:=Aa g;clear k h u g m;go_enter func122,ntmps122;go_upto_region 1 with fail;refine gen_w (p:=λv=>Code.wp _ _ _ _ v) (q:=λv=>NBx w.heap.size v x/\Λ w v) ⟨B,c.out⟩ ?_;clear B c;rintro v⟨B,t⟩;have c:=Aa t;have c0:=B.c0;have c1:=B.c1;clear t B;by_cases j:x.k=2
 ·by_cases f:x.pn=0
  ·go_wp2_with fail;have a:=d.out;simp[j,f]at a;subst a;go_ret
   first|exact⟨rfl,c.out⟩|(refine⟨Ao (λb=>ω (β b)) ?_,c.out⟩;first|(simp;done)|(simp;omega))
  ·by_cases i:x.pn<=64
   ·go_wp2_with fail;refine(o.out v c.out).mono ?_;rintro e w1⟨rfl,rfl⟩;go_wp2_with fail;have a:=d.out;simp[j,f,i]at a;subst a;go_ret
    first|exact⟨rfl,c.out⟩|(refine⟨Ao (λb=>ω (β b)) ?_,c.out⟩;first|(simp;done)|(simp;omega))
   ·go_wp2_with fail;have a:=d.out;simp[j,f,i]at a;subst a;go_ret
    first|exact⟨rfl,c.out⟩|(refine⟨Ao (λb=>ω (β b)) ?_,c.out⟩;first|(simp;done)|(simp;omega))
 ·by_cases l:x.k=1
  ·by_cases i:x.pn<=64
   ·go_wp2_with fail;refine(o.out v c.out).mono ?_;rintro e w1⟨rfl,rfl⟩;go_wp2_with fail;have a:=d.out;simp[l,i]at a;subst a;go_ret
    first|exact⟨rfl,c.out⟩|(refine⟨Ao (λb=>ω (β b)) ?_,c.out⟩;first|(simp;done)|(simp;omega))
   ·go_wp2_with fail;have a:=d.out;simp[l,i]at a;subst a;go_ret
    first|exact⟨rfl,c.out⟩|(refine⟨Ao (λb=>ω (β b)) ?_,c.out⟩;first|(simp;done)|(simp;omega))
  ·by_cases f:x.pn=0
   ·go_wp2_with fail;have a:=d.out;simp[l,j,f]at a;subst a;go_ret
    first|exact⟨rfl,c.out⟩|(refine⟨Ao (λb=>ω (β b)) ?_,c.out⟩;first|(simp;done)|(simp;omega))
   ·go_wp2_with fail;have a:=d.out;simp[l,j,f]at a;subst a;go_ret
    first|exact⟨rfl,c.out⟩|(refine⟨Ao (λb=>ω (β b)) ?_,c.out⟩;first|(simp;done)|(simp;omega))
theorem LP(K:Θ)(x:NV)(n:PN)(w:Γ)(h:NodeAt K w x n):
 Calls prog 123 #[γ x.cells.toArray] w λe w'=>e=ω (β (rvalueP n))/\Λ w w':=by
 have B:=EC w x h.c.len;have c:=Aa (below_new w (.cells x.cells.toArray 121));have o:=h.k;have l:=h.v;have t:=l.2.1;have s:=Aa l.l;obtain⟨m,g⟩:∃m,rvalueP n=m:=⟨_,rfl⟩;rw[g];unfold rvalueP at g;rw[s.out,<-o]at g;have d:=Aa g;clear l h o g;go_enter func123,ntmps123;go_upto_region 1 with fail;refine gen_w (p:=λv=>Code.wp _ _ _ _ v) (q:=λv=>NBx w.heap.size v x/\Λ w v) ⟨B,c.out⟩ ?_;clear B c;rintro v⟨B,r⟩;have c:=Aa r;have c0:=B.c0;have c1:=B.c2;clear r B;by_cases j:x.k=1
 ·by_cases f:x.vn=0
  ·go_wp2_with fail;have a:=d.out;simp[j,f]at a;subst a;go_ret
   first|exact⟨rfl,c.out⟩|(refine⟨Ao (λb=>ω (β b)) ?_,c.out⟩;first|(simp;done)|(simp;omega))
  ·by_cases i:x.vn<=256
   ·go_wp2_with fail;have a:=d.out;simp[j,f,i]at a;subst a;go_ret
    first|exact⟨rfl,c.out⟩|(refine⟨Ao (λb=>ω (β b)) ?_,c.out⟩;first|(simp;done)|(simp;omega))
   ·go_wp2_with fail;have a:=d.out;simp[j,f,i]at a;subst a;go_ret
    first|exact⟨rfl,c.out⟩|(refine⟨Ao (λb=>ω (β b)) ?_,c.out⟩;first|(simp;done)|(simp;omega))
 ·by_cases k:x.k=3
  ·by_cases i:x.vn<=256
   ·go_wp2_with fail;have a:=d.out;simp[k,i]at a;subst a;go_ret
    first|exact⟨rfl,c.out⟩|(refine⟨Ao (λb=>ω (β b)) ?_,c.out⟩;first|(simp;done)|(simp;omega))
   ·go_wp2_with fail;have a:=d.out;simp[k,i]at a;subst a;go_ret
    first|exact⟨rfl,c.out⟩|(refine⟨Ao (λb=>ω (β b)) ?_,c.out⟩;first|(simp;done)|(simp;omega))
  ·by_cases f:x.vn=0
   ·go_wp2_with fail;have a:=d.out;simp[k,j,f]at a;subst a;go_ret
    first|exact⟨rfl,c.out⟩|(refine⟨Ao (λb=>ω (β b)) ?_,c.out⟩;first|(simp;done)|(simp;omega))
   ·go_wp2_with fail;have a:=d.out;simp[k,j,f]at a;subst a;go_ret
    first|exact⟨rfl,c.out⟩|(refine⟨Ao (λb=>ω (β b)) ?_,c.out⟩;first|(simp;done)|(simp;omega))
theorem Et:z32.length=32:=rfl
theorem G8(K:Θ)(x:RV)(r:PR)(w:Γ)(h:RefAt K w x r)(hd:r.i.length<32->DecSaid r.i):
 Calls prog 154 #[γ x.cells.toArray] w λe w'=>e=ω (β (rrefP KD r))/\Λ w w':=by
 have B:=Jp w x h.len;have g:=Aa (below_new w (.cells x.cells.toArray 118));have A:=Aa (show x.n<32->∀v,Λ w v->Calls prog 155 #[γ x.cells.toArray] v λe w'=>e=ω (ι (KD r.i))/\Λ v w' from λF v G=>GO K x r v (h.go (Keep.below G)) (hd (by rw[h.2.2.2.2.l];exact F)));obtain⟨t,m⟩:∃t,rrefP KD r=t:=⟨_,rfl⟩;obtain⟨C,s⟩:∃C,KD r.i=C:=⟨_,rfl⟩;rw[m];rw[s]at A;unfold rrefP at m;rw[s,<-h.1,<-h.2.1,h.2.2.2.2.l]at m;have k:=Aa m;have y:=h.len;have H:=h.2.2.2.2.2.1;clear h hd s m;go_enter func154,ntmps154;go_upto_region 1 with fail;refine gen_w (p:=λv=>Code.wp _ _ _ _ v) (q:=λv=>RBx w.heap.size v x/\Λ w v) ⟨B,g.out⟩ ?_;clear B g;rintro v⟨B,z⟩;have g:=Aa z;have i:=Aa B;have a:=Aa y;have c0:=B.c0;have c1:=B.c33;clear z B y;by_cases l:x.k=0
 ·by_cases f:x.d=z32
  ·have c:=Aa (show(!(x.d==z32))=false from by simp[f]);have d:=Aa f;clear f;go_wp2_with (first|refine E5 rfl _ rfl w.heap.size 1 rfl x.d a.out i.out.digest ?_|refine G4 rfl _ _ rfl x.d z32 rfl rfl a.out Et false c.out ?_|refine G3 rfl _ _ rfl x.d z32 rfl rfl a.out Et false c.out ?_|refine C3 rfl _ rfl w.heap.size 0 rfl x a.out i.out.all ?_);go_ret;refine⟨Ao (λb=>ω (β b)) ?_,g.out⟩;rw[<-k.out,Bq]
   first|(simp[l,d.out];done)|(simp[l,d.out];omega)
  ·have c:=Aa (show(!(x.d==z32))=true from by simp[f]);have d:=Aa f;clear f;go_wp2_with (first|refine E5 rfl _ rfl w.heap.size 1 rfl x.d a.out i.out.digest ?_|refine G4 rfl _ _ rfl x.d z32 rfl rfl a.out Et true c.out ?_|refine G3 rfl _ _ rfl x.d z32 rfl rfl a.out Et true c.out ?_|refine C3 rfl _ rfl w.heap.size 0 rfl x a.out i.out.all ?_);go_ret;refine⟨Ao (λb=>ω (β b)) ?_,g.out⟩;rw[<-k.out,Bq]
   first|(simp[l,d.out];done)|(simp[l,d.out];omega)
 ·by_cases o:x.k=2
  ·go_wp2_with fail;go_ret;refine⟨Ao (λb=>ω (β b)) ?_,g.out⟩;rw[<-k.out,Bq]
   first|(simp[o];done)|(simp[o];omega)
  ·by_cases j:x.k=1
   ·by_cases f:x.d=z32
    ·have c:=Aa (show(x.d==z32)=true from by simp[f]);have d:=Aa f;clear f;by_cases n:x.n<32
     ·have D:(x.n:Int)<32:=(by omega);go_wp2_with (first|refine E5 rfl _ rfl w.heap.size 1 rfl x.d a.out i.out.digest ?_|refine G4 rfl _ _ rfl x.d z32 rfl rfl a.out Et true c.out ?_|refine G3 rfl _ _ rfl x.d z32 rfl rfl a.out Et true c.out ?_|refine C3 rfl _ rfl w.heap.size 0 rfl x a.out i.out.all ?_);refine(A.out n v g.out).mono ?_;rintro e w1⟨rfl,u⟩;have E:=Aa (below_go g.out u);clear u;go_wp2_with fail;go_ret;refine⟨Ao (λb=>ω (β b)) ?_,E.out⟩;rw[<-k.out,Bq]
      first|(simp[j,d.out,n];done)|(simp[j,d.out,n];omega)
     ·have D:¬(x.n:Int)<32:=(by omega);go_wp2_with (first|refine E5 rfl _ rfl w.heap.size 1 rfl x.d a.out i.out.digest ?_|refine G4 rfl _ _ rfl x.d z32 rfl rfl a.out Et true c.out ?_|refine G3 rfl _ _ rfl x.d z32 rfl rfl a.out Et true c.out ?_|refine C3 rfl _ rfl w.heap.size 0 rfl x a.out i.out.all ?_);go_ret;refine⟨Ao (λb=>ω (β b)) ?_,g.out⟩;rw[<-k.out,Bq]
      first|(simp[j,d.out,n];done)|(simp[j,d.out,n];omega)
    ·have c:=Aa (show(x.d==z32)=false from by simp[f]);have d:=Aa f;clear f;go_wp2_with (first|refine E5 rfl _ rfl w.heap.size 1 rfl x.d a.out i.out.digest ?_|refine G4 rfl _ _ rfl x.d z32 rfl rfl a.out Et false c.out ?_|refine G3 rfl _ _ rfl x.d z32 rfl rfl a.out Et false c.out ?_|refine C3 rfl _ rfl w.heap.size 0 rfl x a.out i.out.all ?_);go_ret;refine⟨Ao (λb=>ω (β b)) ?_,g.out⟩;rw[<-k.out,Bq]
     first|(simp[j,d.out];done)|(simp[j,d.out];omega)
   ·go_wp2_with fail;go_ret;refine⟨Ao (λb=>ω (β b)) ?_,g.out⟩;rw[<-k.out,Bq]
    first|(simp[l,o,j];done)|(simp[l,o,j];omega)
theorem LQ(K:Θ)(x:NV)(n:PN)(w:Γ)(h:NodeAt K w x n)(hd:n.c.i.length<32->DecSaid n.c.i):
 Calls prog 124 #[γ x.cells.toArray] w λe w'=>e=ω (β (rchildP KD n))/\Λ w w':=by
 have B:=EC w x h.c.len;have c:=Aa (below_new w (.cells x.cells.toArray 121));obtain⟨q,j⟩:∃q,rrefP KD n.c=q:=⟨_,rfl⟩
 have HR:=Aa (show∀v,Λ w v->Calls prog 154 #[γ x.c.cells.toArray] v λe w'=>e=ω (β q)/\Λ v w' from λv o=>by
  rw[<-j];exact G8 K x.c n.c v (h.c.go (Keep.below o)) hd)
 obtain⟨m,k⟩:∃m,KD n.c.i=m:=⟨_,rfl⟩
 have D:=Aa (show q=true->∀v,Λ w v->Calls prog 155 #[γ x.c.cells.toArray] v λe w'=>e=ω (ι m)/\Λ v w' from λA v o=>by
  rw[<-k];exact GO K x.c n.c v (h.c.go (Keep.below o)) (hd (IC (j.trans A))))
 obtain⟨u,d⟩:∃u,rchildP KD n=u:=⟨_,rfl⟩;rw[d];unfold rchildP at d;rw[k,j,<-h.k,<-h.c.1]at d;have i:=Aa d;have s:=Aa h.c.len;clear h hd k d j;go_enter func124,ntmps124;go_upto_region 1 with fail;refine gen_w (p:=λv=>Code.wp _ _ _ _ v) (q:=λv=>NBx w.heap.size v x/\Λ w v) ⟨B,c.out⟩ ?_;clear B c;rintro v⟨B,y⟩;have c:=Aa y;have r:=Aa B;clear y B;go_wp2_with (first|refine C3 rfl _ rfl w.heap.size 3 rfl x.c s.out r.out.child ?_);refine(HR.out v c.out).mono ?_;rintro e w1⟨rfl,l⟩;have B1:=r.out.go l;have f:=Aa (below_go c.out l);have c0:=B1.c0;have c3:=B1.c3;have C:=Aa B1;clear l B1 r c;cases q with
 |false=>
  go_wp2_with fail;go_ret;refine⟨Ao (λb=>ω (β b)) ?_,f.out⟩;rw[<-i.out,Bq]
  first|(simp;done)|(simp;omega)
 |true=>
  by_cases a:x.k=2
  ·by_cases g:x.c.k=2
   ·go_wp2_with fail;go_ret;refine⟨Ao (λb=>ω (β b)) ?_,f.out⟩;rw[<-i.out,Bq]
    first|(simp[a,g];done)|(simp[a,g];omega)
   ·have E:(x.c.k==2)=false:=(by simp[g]);go_wp2_with (first|refine C3 rfl _ rfl w.heap.size 3 rfl x.c s.out C.out.child ?_);refine(D.out (by trivial) w1 f.out).mono ?_;rintro e F⟨rfl,t⟩;have z:=Aa (below_go f.out t);clear t;go_wp2_with fail;go_ret;refine⟨Ao (λb=>ω (β b)) ?_,z.out⟩;rw[<-i.out,Bq]
    first|(simp[a,g];done)|(simp[a,g];omega)
  ·go_wp2_with fail;go_ret;refine⟨Ao (λb=>ω (β b)) ?_,f.out⟩;rw[<-i.out,Bq]
   first|(simp[a];done)|(simp[a];omega)
theorem Iq:∀(l:List PR)(r:PR),ways (l++[r])=ways l+(if r.k≠0 then 1 else 0)
 |[],r=>by simp[ways]
 |a::l,r=>by rw[BS,ways,ways,Iq l r];omega
theorem G9:∀l:List PR,ways l<=l.length
 |[]=>by simp[ways]
 |r::l=>by
  have:=G9 l;rw[ways,AE];split<;>omega
theorem DO{a:List PR}{j:Nat}{r:PR}(h:a[j]?=some r):a.take (j+1)=a.take j++[r]:=by
 rw[BP,h];rfl
theorem LR(w1:Γ)(y:RV)(a:y.d.length=32)(C:Ξ):RBx w1.heap.size ((w1.alloc (.cells C 118)).setRow w1.heap.size y.cells.toArray) y:=⟨AC _ _ _ _ _ _ (Ak w1 _),a⟩
theorem W6:(rz.cells.toArray:Ξ).size=34:=rfl
theorem Mt(K:Θ)(x:NV)(n:PN)(w:Γ)(h:NodeAt K w x n)(hd:∀r∈n.ks,r.i.length<32->DecSaid r.i):
 Calls prog 125 #[γ x.cells.toArray] w λe w'=>e=ω (β (rkidsP KD n))/\Λ w w':=by
 have B:=EC w x h.c.len;have D:=Aa (below_new w (.cells x.cells.toArray 121));have ab:=Aa h.ks;have hm:=h.m;have k:=Aa hm.1;obtain⟨-,aw,av,ao,ai⟩:=hm;unfold maxLen at av;have al:=Aa ai;obtain⟨ak,G⟩:∃ak,rkidsP KD n=ak:=⟨_,rfl⟩;rw[G];unfold rkidsP at G;rw[<-h.k,<-k.out,h.v.l]at G;have E:=Aa G;have ax:=h.v.2.1;have HD:=Aa hd;clear h hd G ai;go_enter func125,ntmps125;go_upto_region 1 with fail;refine gen_w (p:=λv=>Code.wp _ _ _ _ v) (q:=λv=>NBx w.heap.size v x/\Λ w v) ⟨B,D.out⟩ ?_;clear B D;rintro v⟨B,hb⟩;have D:=Aa hb;have c0:=B.c0;have c2:=B.c2;have c37:=B.c37;obtain⟨ka,ah⟩:∃ka,x.ka=ka:=⟨_,rfl⟩;rw[ah]at c37 ab al;clear hb B ah;by_cases l:x.k=3
 ·by_cases s:x.kn=16
  ·obtain⟨X,M⟩:∃X:Nat,(if 0<x.vn then 1 else 0)=X:=⟨_,rfl⟩;have aj:=Aa M;rw[s]at k c37 aw ao;by_cases hv:0<x.vn
   ·have e1:X=1:=(by rw[<-M,Ai hv]);have ar:(x.vn:Int)>0:=(by omega);subst e1;clear M;go_wp2_with fail
    go_loopw [3,26] (λs3 z v=>∃j:Nat,j<=16/\z=ι j/\s3=ι ((1+ways (n.ks.take j):Nat):Int)/\(∀r∈n.ks.take j,rrefP KD r=true)/\Λ w v) (λ_ z _=>16-(intOf z).toNat)
    case atStart=>exact⟨0,by omega,rfl,rfl,λr c=>by simp at c,D.out⟩
    case round=>
     obtain⟨j,hj,rfl,rfl,I,L⟩:=hrel;have m:=Aa I;have f:=Aa L;clear I L;by_cases ap:j<16
     ·have Z:(j:Int)<16:=(by omega);obtain⟨r,c⟩:∃r,n.ks[j]?=some r:=⟨_,Ad (by have:=k.out;omega)⟩;obtain⟨g,off,y,aa,_,Q,i⟩:=ab.out j r c;have ac:=Aa (EH Q (λhl=>f.out.block g hl));have d:=Aa i.len;have HI:=Aa (show(prog.info? 118).map (·.size)=some y.cells.toArray.size from by rw[EW,Ba,RV.len d.out]);have HS:=Aa (show(rz.cells.toArray:Ξ).size=y.cells.toArray.size from by rw[W6,Ba,RV.len d.out]);have HO:=Aa (Am y.one);obtain⟨q,C⟩:∃q,rrefP KD r=q:=⟨_,rfl⟩
      have af:=Aa (show∀u,Λ w u->Calls prog 154 #[γ y.cells.toArray] u λe w'=>e=ω (β q)/\Λ u w' from λu hu=>by
       rw[<-C];exact G8 K y r u (i.go (Keep.below hu)) (HD.out r (AL c)))
      have T:=Aa C;have HR:=Aa c;have aq:=Aa i.1;have ae:ways (n.ks.take j)<=j:=(by have:=G9 (n.ks.take j);rw[Ap]at this;omega);have W:=Aa (show ways (n.ks.take (j+1))=ways (n.ks.take j)+(if y.k≠0 then 1 else 0)from by rw[DO c,Iq,i.1]);clear Q i C c;subst aa;go_upto_region 11 with(first|refine C3 rfl _ rfl g (off+j*34) rfl y d.out ac.out ?_|refine A5 rfl 118 _ _ rfl _ y.cells.toArray rfl rfl 118 _ (Ak _ _) HI.out HS.out HO.out ?_);refine gen_w (p:=λv=>Code.wp _ _ _ _ v) (q:=λv=>RBx wr.heap.size v y/\Λ w v) ⟨LR _ _ d.out _,Below.setRow (f.out.alloc f.out.size _) f.out.size _⟩ ?_;rintro v2⟨V,S⟩;have N:=Aa V;have R:=Aa S;clear V S;go_wp2_with (first|refine C3 rfl _ rfl wr.heap.size 0 rfl y d.out N.out.all ?_);refine(af.out v2 R.out).mono ?_;rintro e w3⟨rfl,A⟩;have U:=N.out.go A;have am:=U.c0;have o:=Aa (below_go R.out A);clear A U;cases q with
      |false=>
       go_wp2_with fail;go_ret;refine⟨Ao (λb=>ω (β b)) ?_,o.out⟩;rw[<-E.out,l,s,Ae (by decide),Ae (by decide)];have ad:n.ks.all (rrefP KD)=false:=by
        rw[List.all_eq_false];exact⟨r,AL HR.out,by rw[T.out];simp⟩
       rw[ad];rfl
      |true=>
       have F:=Aa (show∀r∈n.ks.take (j+1),rrefP KD r=true from λr' J=>by
        rw[DO HR.out]at J;rcases AP.1 J with h|h
        ·exact m.out r' h
        ·simp only[Ay,BN,Dn]at h;rw[h];exact T.out)
       by_cases O:y.k=0
       ·have a:=W.out;rw[Ae (by simp[O])]at a;have t:=Aa a;clear a;go_wp2_with fail
        go_roundw
        case rel=>exact⟨j+1,by omega,by simp,by rw[t.out];simp,F.out,o.out⟩
        case measure=>simp[intOf];omega
       ·have a:=W.out;rw[Ai O]at a;have t:=Aa a;clear a;go_wp2_with fail
        go_roundw
        case rel=>exact⟨j+1,by omega,by simp,by rw[t.out];first|(simp;done)|(simp;omega),F.out,o.out⟩
        case measure=>simp[intOf];omega
     ·have Z:¬(j:Int)<16:=(by omega);have P:n.ks.take j=n.ks:=A9 (by have:=k.out;omega);rw[P]at m⊢;have H:n.ks.all (rrefP KD)=true:=Dw.2 m.out;have Y:=Aa H;have ae:ways n.ks<=16:=(by have:=G9 n.ks;have:=k.out;omega);clear H P;go_wp2_with fail;go_ret;refine⟨Ao (λb=>ω (β b)) ?_,f.out⟩;rw[<-E.out,l,s,Ae (by decide),Ae (by decide),Y.out,Du,Bq,aj.out];simp
      try omega
   ·have e1:X=0:=(by rw[<-M,Ae hv]);have ar:¬(x.vn:Int)>0:=(by omega);subst e1;clear M;go_wp2_with fail
    go_loopw [3,26] (λs3 z v=>∃j:Nat,j<=16/\z=ι j/\s3=ι ((0+ways (n.ks.take j):Nat):Int)/\(∀r∈n.ks.take j,rrefP KD r=true)/\Λ w v) (λ_ z _=>16-(intOf z).toNat)
    case atStart=>exact⟨0,by omega,rfl,rfl,λr c=>by simp at c,D.out⟩
    case round=>
     obtain⟨j,hj,rfl,rfl,I,L⟩:=hrel;have m:=Aa I;have f:=Aa L;clear I L;by_cases ap:j<16
     ·have Z:(j:Int)<16:=(by omega);obtain⟨r,c⟩:∃r,n.ks[j]?=some r:=⟨_,Ad (by have:=k.out;omega)⟩;obtain⟨g,off,y,aa,_,Q,i⟩:=ab.out j r c;have ac:=Aa (EH Q (λhl=>f.out.block g hl));have d:=Aa i.len;have HI:=Aa (show(prog.info? 118).map (·.size)=some y.cells.toArray.size from by rw[EW,Ba,RV.len d.out]);have HS:=Aa (show(rz.cells.toArray:Ξ).size=y.cells.toArray.size from by rw[W6,Ba,RV.len d.out]);have HO:=Aa (Am y.one);obtain⟨q,C⟩:∃q,rrefP KD r=q:=⟨_,rfl⟩
      have af:=Aa (show∀u,Λ w u->Calls prog 154 #[γ y.cells.toArray] u λe w'=>e=ω (β q)/\Λ u w' from λu hu=>by
       rw[<-C];exact G8 K y r u (i.go (Keep.below hu)) (HD.out r (AL c)))
      have T:=Aa C;have HR:=Aa c;have aq:=Aa i.1;have ae:ways (n.ks.take j)<=j:=(by have:=G9 (n.ks.take j);rw[Ap]at this;omega);have W:=Aa (show ways (n.ks.take (j+1))=ways (n.ks.take j)+(if y.k≠0 then 1 else 0)from by rw[DO c,Iq,i.1]);clear Q i C c;subst aa;go_upto_region 11 with(first|refine C3 rfl _ rfl g (off+j*34) rfl y d.out ac.out ?_|refine A5 rfl 118 _ _ rfl _ y.cells.toArray rfl rfl 118 _ (Ak _ _) HI.out HS.out HO.out ?_);refine gen_w (p:=λv=>Code.wp _ _ _ _ v) (q:=λv=>RBx wr.heap.size v y/\Λ w v) ⟨LR _ _ d.out _,Below.setRow (f.out.alloc f.out.size _) f.out.size _⟩ ?_;rintro v2⟨V,S⟩;have N:=Aa V;have R:=Aa S;clear V S;go_wp2_with (first|refine C3 rfl _ rfl wr.heap.size 0 rfl y d.out N.out.all ?_);refine(af.out v2 R.out).mono ?_;rintro e w3⟨rfl,A⟩;have U:=N.out.go A;have am:=U.c0;have o:=Aa (below_go R.out A);clear A U;cases q with
      |false=>
       go_wp2_with fail;go_ret;refine⟨Ao (λb=>ω (β b)) ?_,o.out⟩;rw[<-E.out,l,s,Ae (by decide),Ae (by decide)];have ad:n.ks.all (rrefP KD)=false:=by
        rw[List.all_eq_false];exact⟨r,AL HR.out,by rw[T.out];simp⟩
       rw[ad];rfl
      |true=>
       have F:=Aa (show∀r∈n.ks.take (j+1),rrefP KD r=true from λr' J=>by
        rw[DO HR.out]at J;rcases AP.1 J with h|h
        ·exact m.out r' h
        ·simp only[Ay,BN,Dn]at h;rw[h];exact T.out)
       by_cases O:y.k=0
       ·have a:=W.out;rw[Ae (by simp[O])]at a;have t:=Aa a;clear a;go_wp2_with fail
        go_roundw
        case rel=>exact⟨j+1,by omega,by simp,by rw[t.out];simp,F.out,o.out⟩
        case measure=>simp[intOf];omega
       ·have a:=W.out;rw[Ai O]at a;have t:=Aa a;clear a;go_wp2_with fail
        go_roundw
        case rel=>exact⟨j+1,by omega,by simp,by rw[t.out];first|(simp;done)|(simp;omega),F.out,o.out⟩
        case measure=>simp[intOf];omega
     ·have Z:¬(j:Int)<16:=(by omega);have P:n.ks.take j=n.ks:=A9 (by have:=k.out;omega);rw[P]at m⊢;have H:n.ks.all (rrefP KD)=true:=Dw.2 m.out;have Y:=Aa H;have ae:ways n.ks<=16:=(by have:=G9 n.ks;have:=k.out;omega);clear H P;go_wp2_with fail;go_ret;refine⟨Ao (λb=>ω (β b)) ?_,f.out⟩;rw[<-E.out,l,s,Ae (by decide),Ae (by decide),Y.out,Du,Bq,aj.out];simp
      try omega
  ·go_wp2_with fail;go_ret;refine⟨Ao (λb=>ω (β b)) ?_,D.out⟩;rw[<-E.out,Bq]
   first|(simp[l,s];done)|(simp[l,s];omega)
 ·go_wp2_with fail;go_ret;refine⟨Ao (λb=>ω (β b)) ?_,D.out⟩;rw[<-E.out,Bq]
  first|(simp[l];done)|(simp[l];omega)
theorem Sw(K:Θ)(x:NV)(n:PN)(w:Γ)(h:NodeAt K w x n)(hd:∀r,(r=n.c∨r∈n.ks)->r.i.length<32->DecSaid r.i):
 Calls prog 88 #[γ x.cells.toArray] w λe w'=>e=ω (β (NR n))/\Λ w w':=by
 have B:=EC w x h.c.len;have c:=Aa (below_new w (.cells x.cells.toArray 121));obtain⟨f,j⟩:∃q,knownP n=q:=⟨_,rfl⟩;obtain⟨D,g⟩:∃q,rpathP n=q:=⟨_,rfl⟩;obtain⟨F,A⟩:∃q,rvalueP n=q:=⟨_,rfl⟩;obtain⟨E,s⟩:∃q,rchildP KD n=q:=⟨_,rfl⟩;obtain⟨N,z⟩:∃q,rkidsP KD n=q:=⟨_,rfl⟩
 have S:=Aa (show∀v,Λ w v->Calls prog 122 #[γ x.cells.toArray] v λe w'=>e=ω (β D)/\Λ v w' from λv b=>by
  rw[<-g];exact Ms K x n v (h.go (Keep.below b)))
 have U:=Aa (show∀v,Λ w v->Calls prog 123 #[γ x.cells.toArray] v λe w'=>e=ω (β F)/\Λ v w' from λv b=>by
  rw[<-A];exact LP K x n v (h.go (Keep.below b)))
 have Q:=Aa (show∀v,Λ w v->Calls prog 124 #[γ x.cells.toArray] v λe w'=>e=ω (β E)/\Λ v w' from λv b=>by
  rw[<-s];exact LQ K x n v (h.go (Keep.below b)) (hd _ (.inl rfl)))
 have R:=Aa (show∀v,Λ w v->Calls prog 125 #[γ x.cells.toArray] v λe w'=>e=ω (β N)/\Λ v w' from λv b=>by
  rw[<-z];exact Mt K x n v (h.go (Keep.below b)) (λr T=>hd r (.inr T)))
 have I:=Aa (show NR n=(f&&D&&F&&E&&N)from by unfold NR nright;rw[j,g,A,s,z]);rw[I.out];have d:=Aa (show(decide (x.k=1)||decide (x.k=2)||decide (x.k=3))=f from by rw[<-j,h.k];rfl);clear j g A s z h hd I;go_enter func88,ntmps88;go_upto_region 1 with fail;refine gen_w (p:=λv=>Code.wp _ _ _ _ v) (q:=λv=>NBx w.heap.size v x/\Λ w v) ⟨B,c.out⟩ ?_;clear B c;rintro v⟨B,L⟩;have c:=Aa L;have M:=Aa B;have c0:=B.c0;clear L B
 go_cut [3]from 3 to 16 (λV u=>V=β f/\u=v)
 case first=>
  by_cases k1:x.k=1
  ·have a:=d.out;simp[k1]at a;subst a;go_wp2_with fail
   go_meet
   exact⟨rfl,rfl⟩
  ·by_cases k2:x.k=2
   ·have a:=d.out;simp[k2]at a;subst a;go_wp2_with fail
    go_meet
    exact⟨rfl,rfl⟩
   ·by_cases C:x.k=3
    ·have a:=d.out;simp[C]at a;subst a;go_wp2_with fail
     go_meet
     exact⟨rfl,rfl⟩
    ·have a:=d.out;simp[k1,k2,C]at a;subst a;have e1:(x.k==1)=false:=(by simp[k1]);have Z:(x.k==2)=false:=(by simp[k2]);have e3:(x.k==3)=false:=(by simp[C]);go_wp2_with fail
     go_meet
     exact⟨rfl,rfl⟩
 case rest=>
  obtain⟨rfl,rfl⟩:=hcut;cases f with
  |false=>
   go_wp2_with fail;go_ret;exact⟨rfl,c.out⟩
  |true=>
   go_wp2_with (first|refine CC rfl _ rfl w.heap.size rfl x M.out ?_);refine(S.out _ c.out).mono ?_;rintro e w1⟨rfl,t⟩;have J:=Aa (M.out.go t);have k:=Aa (below_go c.out t);clear t;cases D with
   |false=>
    go_wp2_with fail;go_ret;exact⟨rfl,k.out⟩
   |true=>
    go_wp2_with (first|refine CC rfl _ rfl w.heap.size rfl x J.out ?_);refine(U.out w1 k.out).mono ?_;rintro e W⟨rfl,m⟩;have H:=Aa (J.out.go m);have l:=Aa (below_go k.out m);clear m;cases F with
    |false=>
     go_wp2_with fail;go_ret;exact⟨rfl,l.out⟩
    |true=>
     go_wp2_with (first|refine CC rfl _ rfl w.heap.size rfl x H.out ?_);refine(Q.out W l.out).mono ?_;rintro e P⟨rfl,y⟩;have G:=Aa (H.out.go y);have i:=Aa (below_go l.out y);clear y;cases E with
     |false=>
      go_wp2_with fail;go_ret;exact⟨rfl,i.out⟩
     |true=>
      go_wp2_with (first|refine CC rfl _ rfl w.heap.size rfl x G.out ?_);refine(R.out P i.out).mono ?_;rintro e Y⟨rfl,o⟩;have X:=Aa (G.out.go o);have O:=Aa (below_go i.out o);clear o;go_wp2_with fail;go_ret;exact⟨rfl,O.out⟩
theorem MW{b:τ}{t:T}(d:isB b)(h:decP b= .ok t):∀u∈t.its,u.bs.length<=16777216:=λu c=>by
 obtain⟨j,a,k⟩:=G0 d h;have e:=(Jd a).2.1;have i:=EN u;have g:=Fl c;have l:(bodyOf t).length=t.bs.length+(encs t.its).length:=by unfold bodyOf;rw[Af]
 have f:(bodyOf u).length=u.bs.length+(encs u.its).length:=by unfold bodyOf;rw[Af]
 omega
structure Dd(w v:Γ):Prop where
 row:v.heap[w.heap.size]?=some (.cells nz.cells.toArray 121)
 bel:Λ w v
 sz:w.heap.size+1<=v.heap.size
theorem Dd.go{v:Γ}(h:Dd w v)(a:Λ v v'):Dd w v':=⟨Below.row a h.row,below_go h.bel a,Au h.sz a.size⟩
theorem W7(w:Γ):Dd w (w.alloc (.cells nz.cells.toArray 121)):=⟨Ak _ _,below_new _ _,by simp⟩
theorem Px(b:List Int)(hr:isB b->∀i,i.length<b.length->i.length<32->isB i->DecSaid i):DecSaid b:=by
 intro a n c w hag hn;have hbB:isB b:=hag.b;have HREC:=Aa (hr hbB);have HAG:=Aa hag;have HBB:=Aa hbB;obtain⟨res,hres⟩:∃res,ND b=res:=⟨_,rfl⟩;rw[hres];rw[Sc hbB]at hres;have HRES:=Aa hres;have HDD0:=Aa (W7 w);clear hag hr hres hbB;go_enter func72,ntmps72;go_upto_region 1 with fail;refine gen_w (p:=λv=>Code.wp _ _ _ _ v) (q:=λv=>Dd w v) HDD0.out ?_;clear HDD0;intro v D0;have HD0:=Aa D0;have HCD:=Aa (Lx a n c b v (HAG.out.at D0.bel) hn);clear D0;go_wp2_with fail;refine HCD.out.mono ?_;intro e w1 hp;obtain⟨hb1,hp⟩:=hp;have HD1:=Aa (HD0.out.go hb1);have HV0:=Aa HD0.out.sz;cases hq:decP b with
 |bad er=>
  rw[hq]at hp;have hr:=HRES.out;rw[hq]at hr;have hr:none=res:=hr;subst hr;obtain⟨rfl,her⟩:=hp;have hee:((er:Int) !=0)=true:=by rw[bne_iff_ne];omega
  clear hb1 hq her;go_upto_region 2 with fail;refine gen_w (p:=λv=>Code.wp _ _ _ _ v) (q:=λv=>Dd w v) (HD1.out.go (below_new w1 _)) ?_;intro v2 D2;have HD2:=Aa D2;clear D2;go_wp2_with (first|refine wpList_store_row rfl 121 _ _ rfl _ nz.cells.toArray rfl rfl 121 _ HD2.out.row (Cm rfl) (Cg rfl) (all_oneCell_toArray (NV.one _)) ?_);refine bodyPost_ret (BX results72 _ _ w.heap.size nz rfl rfl (setRow_heap _ _ _ _ _ _ HD2.out.row)) rfl ?_;exact⟨Below.setRow HD2.out.bel (Nat.le_refl _) _,rfl⟩
 |ok t=>
  rw[hq]at hp;have hr:=HRES.out;rw[hq]at hr;obtain⟨y,rfl,hy⟩:=hp;have HLY:=Aa (show LiesP (λb=>w.heap.size+1<=b) w1 t y from BD (λb hb hlt=>⟨rfl,by have:=HV0.out;omega⟩) _ _ hy)
  have hr:(match nodeOfP t with
   |none=>none
   |some n=>if NR n=true then some n else none)=res:=hr
  have HR:=Aa hr;have HSM:=Aa (MW HBB.out hq);have HSB:=Aa (λn hn=>GL (n:=n) HBB.out hq hn);clear hb1 hq hy hr HRES;go_upto_region 2 with fail;refine gen_w (p:=λv=>Code.wp _ _ _ _ v) (q:=λv=>Dd w v/\B1 w1.heap.size v y/\LiesP (λb=>w.heap.size+1<=b) v t y) ⟨HD1.out.go (below_new w1 _),E9 w1 y,BD (λb hb hlt=>⟨heap_alloc_old _ _ hlt,hb⟩) _ _ HLY.out⟩ ?_;rintro v2⟨D2,B2,L2⟩;have c0:=B2.c0;have c1:=B2.c1;have c2:=B2.c2;have HD2:=Aa D2;have HNO:=Aa (QJ (w.heap.size+1) t y v2 L2 D2.sz HSM.out);clear D2 B2 L2;go_wp2_with fail;refine HNO.out.mono ?_;intro e w3 hp;obtain⟨hb3,hp⟩:=hp;have HD3:=Aa (HD2.out.go hb3);have hr:=HR.out;cases hq:nodeOfP t with
  |none=>
   rw[hq]at hp hr;have hr:none=res:=hr;subst hr;obtain⟨y',hl',rfl⟩:=hp;have HL:=Aa hl';clear hb3 hq hl' c0 c1 c2;go_upto_region 5 with(first|refine wpList_store_row rfl 121 _ _ rfl _ y'.cells.toArray rfl rfl 121 _ (heap_alloc_new _ _) (Cm HL.out) (Cg HL.out) (all_oneCell_toArray (NV.one _)) ?_);refine gen_w (p:=λv=>Code.wp _ _ _ _ v) (q:=λv=>Dd w v) (HD3.out.go (Below.setRow (below_new w3 _) (Nat.le_refl _) _)) ?_;intro v4 D4;have HD4:=Aa D4;clear D4;go_wp2_with (first|refine wpList_store_row rfl 121 _ _ rfl _ nz.cells.toArray rfl rfl 121 _ HD4.out.row (Cm rfl) (Cg rfl) (all_oneCell_toArray (NV.one _)) ?_);refine bodyPost_ret (BX results72 _ _ w.heap.size nz rfl rfl (setRow_heap _ _ _ _ _ _ HD4.out.row)) rfl ?_;exact⟨Below.setRow HD4.out.bel (Nat.le_refl _) _,rfl⟩
  |some nn=>
   rw[hq]at hp hr;obtain⟨y',rfl,hna⟩:=hp;have hr:(if NR nn=true then some nn else none)=res:=hr;have HL:=Aa hna.c.len;have HNA:=Aa hna
   have HRI:=Aa (show∀u,NodeAt (λ_=>True) u y' nn->Calls prog 88 #[.agg y'.cells.toArray] u λe w'=>e= .returned (.bool (NR nn))/\Below u.heap.size u w' from λu hu=>Sw _ y' nn u hu (λr hrr h32=>by
    obtain⟨s1,s2⟩:=HSB.out nn hq r hrr;exact HREC.out r.i s1 h32 s2))
   obtain⟨q,hqq⟩:∃q,NR nn=q:=⟨_,rfl⟩;rw[hqq]at hr HRI;have HR2:=Aa hr;clear hb3 hq hna c0 c1 c2 hr hqq;go_upto_region 5 with(first|refine wpList_store_row rfl 121 _ _ rfl _ y'.cells.toArray rfl rfl 121 _ (heap_alloc_new _ _) (Cm HL.out) (Cg HL.out) (all_oneCell_toArray (NV.one _)) ?_);refine gen_w (p:=λv=>Code.wp _ _ _ _ v) (q:=λv=>Dd w v/\NBx w3.heap.size v y'/\Below w3.heap.size w3 v) ⟨HD3.out.go (Below.setRow (below_new w3 _) (Nat.le_refl _) _),⟨setRow_heap _ _ _ _ _ _ (heap_alloc_new _ _),HL.out⟩,Below.setRow (below_new w3 _) (Nat.le_refl _) _⟩ ?_;rintro v4⟨D4,N4,b4⟩;have HD4:=Aa D4;have HN4:=Aa N4;have HB4:=Aa b4;clear D4 N4 b4;go_wp2_with (first|refine CC rfl _ rfl w3.heap.size rfl y' HN4.out ?_);refine(HRI.out v4 (HNA.out.go (Keep.any HB4.out))).mono ?_;rintro e w5⟨rfl,hb5⟩;have HD5:=Aa (HD4.out.go hb5);have HN5:=Aa (HN4.out.go hb5);have HB5:=Aa (below_go HB4.out hb5);clear hb5;have hr:=HR2.out;cases q with
   |false=>
    rw[if_neg (by simp)]at hr;subst hr;go_wp2_with (first|refine wpList_store_row rfl 121 _ _ rfl _ nz.cells.toArray rfl rfl 121 _ HD5.out.row (Cm rfl) (Cg rfl) (all_oneCell_toArray (NV.one _)) ?_);refine bodyPost_ret (BX results72 _ _ w.heap.size nz rfl rfl (setRow_heap _ _ _ _ _ _ HD5.out.row)) rfl ?_;exact⟨Below.setRow HD5.out.bel (Nat.le_refl _) _,rfl⟩
   |true=>
    rw[if_pos rfl]at hr;subst hr;go_wp2_with (first|refine CC rfl _ rfl w3.heap.size rfl y' HN5.out ?_|refine wpList_store_row rfl 121 _ _ rfl _ y'.cells.toArray rfl rfl 121 _ HD5.out.row (Cm HL.out) (Cg HL.out) (all_oneCell_toArray (NV.one _)) ?_);refine bodyPost_ret (BX results72 _ _ w.heap.size y' HL.out rfl (setRow_heap _ _ _ _ _ _ HD5.out.row)) rfl ?_;refine⟨Below.setRow HD5.out.bel (Nat.le_refl _) _,y',rfl,HNA.out.go λk hK hk=>?_⟩;have e:(w5.setRow w.heap.size y'.cells.toArray).heap[k]?=w3.heap[k]?:=(setRow_other _ _ _ _ (by have:=hK.1;omega)).trans (HB5.out.block k hk);exact⟨e,by have:=hK.1;omega,λo=>(World.frozen?_of_block (w:=w3) e).trans (hK.2 o)⟩
theorem QK:∀(L:Nat)(b:τ),b.length<=L->DecSaid b:=by
 intro L
 induction L using Nat.strongRecOn with
 |_ L a=>
  intro b d;exact Px b λ_ i c _ _=>a i.length (by omega) i (Ab _)
theorem FZ(b:τ):DecSaid b:=QK b.length b (Ab _)
theorem QL(K:Θ)(x:NV)(n:PN)(w:Γ)(h:NodeAt K w x n):
 Calls prog 88 #[γ x.cells.toArray] w λe w'=>e=ω (β (NR n))/\Λ w w':=Sw K x n w h λr _ _=>FZ r.i
theorem V.ext{a b:V}(e:β a.l=β b.l)(c:σ a.ba a.bn a.bc=σ b.ba b.bn b.bc)(d:σ a.ia a.m a.ic=σ b.ia b.m b.ic):a=b:=by
 cases a;cases b;cases e;cases c;cases d;rfl
theorem GU{P:Θ}{w:Γ}{g off:Nat}(b:P g):∀{ts:List T}{k:Nat},(∀(i:Nat)(t:T),ts[i]?=some t->∃y:V,w.cell? ⟨g,off+(k+i)*3,none⟩=some (β y.l)/\w.cell? ⟨g,off+(k+i)*3+1,none⟩=some (σ y.ba y.bn y.bc)/\w.cell? ⟨g,off+(k+i)*3+2,none⟩=some (σ y.ia y.m y.ic)/\LiesP P w t y)->LiesPAll P w ts (ζ g off) k
 |[],_,_=>Dp
 |t::r,k,h=>by
  obtain⟨y,l,f,e,m⟩:=h 0 t rfl;refine liesPAll_cons.2 ⟨⟨g,off,y,⟨rfl,b⟩,l,f,e,m⟩,GU b λi u j=>?_⟩;obtain⟨z,d,c,a,z3⟩:=h (i+1) u (by simpa using j);rw[show k+(i+1)=k+1+i from by omega]at d c a;exact⟨z,d,c,a,z3⟩
theorem JS(P:Θ)(a:Ω)(m c:Nat)(ts:List T)(f:m=ts.length/\m<=c/\c<=maxLen/\m<=1000)(w:Γ)(l:LiesPAll P w ts a 0)(v:a=none->c=0)(J:∀b,w.heap.size<=b->P b):
 Calls prog 128 #[σ a m c] w λe w'=>(∃y:V,e=ω (γ #[β y.l,σ y.ba y.bn y.bc,σ y.ia y.m y.ic])/\LiesP P w' (.mk true [] ts) y)/\Λ w w':=by
 have s:LiesAll w ts a 0:=Ga (λt _ x h=>CS t x h) l;refine(VT a m c ts ⟨f.1,f.2.1,f.2.2.1,by omega⟩ w s (by omega) v).mono ?_;rintro e w'⟨ys,D,rfl,z,C,p⟩;refine⟨⟨⟨true,none,0,0,some ⟨w.heap.size+1,0,none⟩,m,m⟩,rfl,?_⟩,p⟩;refine liesP_eq.2 ⟨⟨rfl,⟨.inl ⟨rfl,rfl⟩,λ_=>⟨rfl,rfl⟩,rfl,λx I=>by cases I⟩,f.1,Ab _,by show m<=maxLen;unfold maxLen;omega,⟨A8 _,by show m<=_;omega⟩,λg off e=>by cases e⟩,GU (J _ (by omega)) λi t o=>?_⟩;have q:i<ys.length:=by rw[D,f.1];exact(Ar.1 o).1
 obtain⟨g,off,u,A⟩:=C i ys[i] (Ad q);obtain⟨g',K,r,d⟩:=DG l i t o;rw[A6]at d;have e:=A.ha;rw[d.ha]at e;cases e;have G:ys[i]=r:=V.ext (BJ (A.c0.symm.trans d.c0)) (BJ (A.c1.symm.trans d.c1)) (BJ (A.c2.symm.trans d.c2));have k:∀j u,(V.cells ys[i])[j]?=some u->w'.cell? ⟨w.heap.size+1,i*3+j,none⟩=some u:=λj u H=>by
  rw[Aj _ _ _ _ _ _ z,List.getElem?_toArray];have e:ys=ys.take i++ys[i]::ys.drop (i+1):=by rw[<-Bv q,Bj]
  have F:(ys.take i).length=i:=by rw[Ap];omega
  have n:=Fj (ys.take i) ys[i] (ys.drop (i+1)) j u H;rw[F,<-e]at n;exact n
 refine⟨ys[i],?_,?_,?_,?_⟩
 ·have:=k 0 _ rfl;rwa [show i*3+0=0+(0+i)*3 from by omega]at this
 ·have:=k 1 _ rfl;rwa [show i*3+1=0+(0+i)*3+1 from by omega]at this
 ·have:=k 2 _ rfl;rwa [show i*3+2=0+(0+i)*3+2 from by omega]at this
 ·rw[G];exact BD (λb E B=>⟨p.block b B,E⟩) t r d.li
theorem JT{wr w1:World}{it:Value}{ts:List T}{t:T}(l:OwnI wr w.heap.size it ys)(D:AllP (λb=>w.heap.size<=b/\it.ownBlock≠some b) wr ts ys)(p:Below w.heap.size w wr)(m:Below wr.heap.size wr w1)
 (F:LiesP (λb=>wr.heap.size<=b) w1 t y) (E:ys.length<=1000000000) (ty:TypeId):
 ∃v' c,(Builtin.append_ #[106,106] ty #[it, .slice (some ⟨w1.heap.size,0,none⟩) 1 1]).run prog (w1.alloc (.cells #[.bool y.l, .slice y.ba y.bn y.bc, .slice y.ia y.m y.ic] 108))= .ok v' c/\
  OwnI c w.heap.size v' (ys++[y])/\AllP (λb=>w.heap.size<=b/\v'.ownBlock≠some b) c (ts++[t]) (ys++[y])/\Below w.heap.size w c/\(∀b,b<w1.heap.size->it.ownBlock≠some b->c.heap[b]?=w1.heap[b]?)/\w1.heap.size<=c.heap.size:=by
 obtain⟨Y,x⟩:∃Y:Obj,Obj.cells #[.bool y.l, .slice y.ba y.bn y.bc, .slice y.ia y.m y.ic] 108=Y:=⟨_,rfl⟩;rw[x];have r:(w1.alloc Y).heap.size=w1.heap.size+1:=by simp
 have e:Below wr.heap.size wr (w1.alloc Y):=m.alloc m.size _;have I:=p.size;have H:=m.size;have q:(w1.alloc Y).heap[w1.heap.size]?=some Y:=Ak w1 Y;have z:∀j u,(V.cells y)[j]?=some u->(w1.alloc Y).cell? ((⟨w1.heap.size,0,none⟩:Addr).add j)=some u:=by
  intro j u G;rw[BO,A6];rw[<-x]at q⊢;rw[Aj _ _ _ _ _ _ q];simpa[V.cells]using G
 obtain⟨v',c,C,A,f,B⟩:=Jf (Eg l λg _ n=>e.block g n) y _ 1 z (by omega) E ty;have i:∀b,b<w1.heap.size+1->it.ownBlock≠some b->c.heap[b]?=(w1.alloc Y).heap[b]?:=λb a d=>f.block b (by rw[r];exact a) (λh=>d h.symm);have v:∀g,it.ownBlock=some g->g<wr.heap.size:=λg n=>(Fa l n).2;have s:∀b,b<w1.heap.size->it.ownBlock≠some b->v'.ownBlock≠some b:=λb a d h=>by
  rcases B with o|o
  ·exact d (o.symm.trans h)
  ·rw[o,r]at h;cases h;omega
 refine⟨v',c,C,A,AllP.snoc ?_ (D.mono λb a k=>⟨?_,a.1,s b (by omega) a.2⟩),?_,λb a d=>?_,by have:=f.size;omega⟩
 ·refine BD (λb a k=>⟨?_,by omega,?_⟩) t y F
  ·have d:it.ownBlock≠some b:=λh=>by have:=v b h;omega
   rw[i b (by omega) d,Ax _ _ _ k]
  ·exact s b k (λh=>by have:=v b h;omega)
 ·rw[i b (by omega) a.2];exact e.block b k
 ·refine p.trans ⟨f.os.trans e.os,f.tape.trans e.tape,f.output.trans e.output,Au e.size f.size,λb a=>?_⟩;rw[i b (by omega) (λh=>by have:=(Fa l h).1;omega)];exact e.block b (by omega)
 ·rw[i b (by omega) d,Ax _ _ _ a]
structure Nn(w v:Γ)(x:NV):Prop where
 row:v.heap[w.heap.size+1]?=some (.cells #[β false,ε,ε] 108)
 bx:NBx w.heap.size v x
 bel:Λ w v
 sz:w.heap.size+2<=v.heap.size
theorem Nn.go{v:Γ}(h:Nn w v x)(a:Λ v v'):Nn w v' x:=⟨Below.row a h.row,h.bx.go a,below_go h.bel a,Au h.sz a.size⟩
theorem W8(w:Γ)(x:NV)(a:x.c.d.length=32):Nn w ((w.alloc (.cells x.cells.toArray 121)).alloc (.cells #[β false,ε,ε] 108)) x:=by
 have b:(w.alloc (.cells x.cells.toArray 121)).heap.size=w.heap.size+1:=by simp
 refine⟨?_,(EC w x a).go (below_new _ _),below_go (below_new w _) (below_new _ _),by simp⟩;have:=Ak (w.alloc (.cells x.cells.toArray 121)) (.cells #[β false,ε,ε] 108);rwa [b]at this
theorem Nn.x0{v:Γ}(h:Nn w v x):v.cell? ⟨w.heap.size+1,0,none⟩=some (β false):=by rw[Aj _ _ _ _ _ _ h.row];rfl
theorem Nn.x1{v:Γ}(h:Nn w v x):v.cell? ⟨w.heap.size+1,1,none⟩=some (ε):=by rw[Aj _ _ _ _ _ _ h.row];rfl
theorem Nn.x2{v:Γ}(h:Nn w v x):v.cell? ⟨w.heap.size+1,2,none⟩=some (ε):=by rw[Aj _ _ _ _ _ _ h.row];rfl
theorem Nn.xf{v:Γ}(h:Nn w v x):∀o,v.frozen? ⟨w.heap.size+1,o,none⟩=false:=λo=>AN _ _ _ _ _ h.row
theorem GA{v:Γ}{t:T}(h:Nn w v x)(a:LiesP (λb=>w.heap.size+2<=b) v t y):
 IPost w t (ω (γ #[β y.l,σ y.ba y.bn y.bc,σ y.ia y.m y.ic])) (((v.setCell ⟨w.heap.size+1,0,none⟩ (β y.l)).setCell ⟨w.heap.size+1,1,none⟩ (σ y.ba y.bn y.bc)).setCell ⟨w.heap.size+1,2,none⟩ (σ y.ia y.m y.ic)):=
 ⟨⟨y,rfl,BD (λb d c=>⟨Dk (by omega) _ _ _,by omega⟩) _ _ a⟩,Ci h.bel (by omega) _ _ _⟩
theorem QM{base:Nat}{u:Γ}{it:Δ}{ts:List T}(c:OwnI u base it ys)(e:AllP (λb=>base<=b/\it.ownBlock≠some b) u ts ys):∃d a,it=σ d ts.length a/\ts.length<=a/\a<=maxLen/\LiesPAll (λb=>base<=b) u ts d 0:=
 Lv (P:=λb=>base<=b) c (e.mono λb h _=>⟨rfl,h.1⟩) (λg f=>World.ownsRow.lt c g f|>.1)
theorem LS(K:Θ)(x:NV)(n:PN)(w:Γ)(h:NodeAt K w x n)(aq:n.ks.length<=100):
 Calls prog 126 #[γ x.cells.toArray] w (IPost w (.mk true [] (n.ks.map refItemP++[.mk false n.v []]))):=by
 have aj:=Aa (W8 w x h.c.len);have HH:=Aa h;obtain⟨U,bp,bb,a4,a5⟩:=h.m;unfold maxLen at bb;have W:=Aa U;have bm:x.kn<=100:=by rw[U];exact aq
 obtain⟨ka,A⟩:∃ka,x.ka=ka:=⟨_,rfl⟩;have M:=h.ks;rw[A]at M;have a7:=Aa M;have a6:=Aa A;clear h U a4 a5 A M aq;go_enter func126,ntmps126;go_upto_region 1 with fail;refine gen_w (p:=λv=>Code.wp _ _ _ _ v) (q:=λv=>Nn w v x) aj.out ?_;clear aj;intro v X;have c37:=X.bx.c37;rw[a6.out]at c37;have l:=Aa X;clear X;go_wp2_with fail
 go_loopw [3,9] (λit Z u=>∃(j:Nat)(ys:List V),j<=x.kn/\Z=ι j/\ys.length=j/\OwnI u v.heap.size it ys/\AllP (λb=>v.heap.size<=b/\it.ownBlock≠some b) u ((n.ks.take j).map refItemP) ys/\Λ v u) (λ_ Z _=>x.kn-(intOf Z).toNat)
 case atStart=>exact⟨0,[],by omega,rfl,rfl,Dg _ _ _ _,trivial,Ac _ _⟩
 case round=>
  obtain⟨j,ys,hj,rfl,ar,ah,k,ad⟩:=hrel;have S:=Aa ar;have aa:=Aa ah;have ab:=Aa k;have i:=Aa ad;clear ar ah k ad;by_cases R:j<x.kn
  ·have a3:(j:Int)<x.kn:=(by omega);obtain⟨r,F⟩:∃r,n.ks[j]?=some r:=⟨_,Ad (by have:=W.out;omega)⟩;obtain⟨g,off,y,A,_,ax,hy⟩:=a7.out j r F;subst A;have a8:=Aa (EH ax (λhl=>(below_go l.out.bel i.out).block g hl));have E:=Aa hy.len;have HY:=Aa hy;have HR:=Aa F;clear ax hy F;go_upto_region 5 with(first|refine C3 rfl _ rfl g (off+j*34) rfl y E.out a8.out ?_|refine A5 rfl 118 _ _ rfl _ y.cells.toArray rfl rfl 118 _ (Ak _ _) (CD E.out) (CL E.out) (Am (RV.one _)) ?_);refine gen_w (p:=λv=>Code.wp _ _ _ _ v) (q:=λu=>RBx wr.heap.size u y/\Λ wr u) ⟨⟨AC _ _ _ _ _ _ (Ak _ _),E.out⟩,Below.setRow (below_new wr _) (Ab _) _⟩ ?_;rintro u1⟨av,Y⟩;have bl:=Aa av;have ai:=Aa Y;have ba:=Aa (Ks K y r u1 (HY.out.go (Keep.below (below_go l.out.bel (below_go i.out Y)))));clear av Y;go_wp2_with (first|refine C3 rfl _ rfl wr.heap.size 0 rfl y E.out bl.out.all ?_);refine ba.out.mono ?_;rintro e w2⟨⟨z,rfl,c⟩,C⟩;have D:LiesP (λb=>wr.heap.size<=b) w2 (refItemP r) z:=BD (λb H R=>⟨rfl,Au ai.out.size H⟩) _ _ c;obtain⟨v',I,a,d,s,f,N,L⟩:=JT aa.out ab.out i.out (below_go ai.out C) D (by have:=S.out;omega) 106;have G:=Aa a;have bg:=Aa d;have a0:=Aa (show AllP (λb=>v.heap.size<=b/\v'.ownBlock≠some b) I ((n.ks.take (j+1)).map refItemP) (ys++[z])from by rw[DO HR.out,Bp];exact s);have a2:=Aa f;clear c D C a d s f N L;go_wp2_with (first|refine Eu rfl _ _ rfl _ _ rfl rfl G.out ?_)
   go_roundw
   case rel=>exact⟨j+1,ys++[z],by omega,by simp,by have:=S.out;simp;omega,bg.out,a0.out,a2.out⟩
   case measure=>simp[intOf];omega
  ·have a3:¬(j:Int)<x.kn:=(by omega);have am:j=x.kn:=(by omega);have k:=ab.out;rw[am,W.out,Dv]at k;have HA:=Aa k;have Q:=l.out.go i.out;have c2:=Q.bx.c2;have bo:=Aa Q;have m:=HH.out.v;have a9:=Aa (Fk x.va x.vn x.vc n.v wr (m.1.at (below_go l.out.bel i.out)) m.2.1);have ao:=m.l;have bh:=m.2.1;have al:=m.1.b;have bc:=Aa ao;have bf:=Aa al;clear am k Q m ao al;go_wp2_with fail;refine a9.out.mono ?_;rintro e w2⟨rfl,af,C⟩;have D:LiesP (λb=>wr.heap.size<=b) w2 (.mk false n.v []) ⟨false,some ⟨wr.heap.size+1,0,none⟩,x.vn,x.vn,none,0,0⟩:=Gs af bc.out bf.out bh (by omega);obtain⟨v',I,a,d,s,f,N,L⟩:=JT aa.out HA.out i.out C D (by have:=S.out;omega) 106;obtain⟨ia,ic,rfl,O,ac,az⟩:=QM d s;have B:(n.ks.map refItemP++[T.mk false n.v []]).length=x.kn+1:=(by have:=W.out;simp;omega);rw[B]at a O;simp only at a;have G:=Aa a;have bi:=Aa (show Nn w I x from l.out.go f);have bn:=Aa B;have a1:=Aa az;have P:=Aa l.out.sz;have bj:=Aa f.size
   have bk:=Aa (show ia=none->ic=0 from λe=>by
    subst e;rcases d.2 with⟨J,h2⟩|⟨g,cap,cur,J,_⟩
    ·rw[B]at J;cases J
    ·cases J)
   have ap:=Aa (JS (λb=>w.heap.size+2<=b) ia (x.kn+1) ic _ ⟨B.symm,O,ac,by omega⟩ I (DN (λb H R=>⟨rfl,by have:=P.out;omega⟩) (λt ht z c=>BD (λb H R=>⟨rfl,by have:=P.out;omega⟩) t z c) a1.out) bk.out (λb H=>by have:=P.out;have:=bj.out;omega));obtain⟨aw,ae⟩:∃aw,x.kn+1=aw:=⟨_,rfl⟩;rw[ae]at G ap;clear af C D a d s f N L az O ac B c2 ae;go_wp2_with (first|refine Eu rfl _ _ rfl _ _ rfl rfl G.out ?_);refine ap.out.mono ?_;rintro e w4⟨⟨z,rfl,c⟩,ay⟩;have o:=bi.out.go ay;have x0:=o.x0;have x1:=o.x1;have x2:=o.x2;have xf:=o.xf;have ak:=Aa o;have HZ:=Aa c;clear o c ay;go_wp2_with fail;have F:=put3 ak.out.row (β z.l) (σ z.ba z.bn z.bc) (σ z.ia z.m z.ic);refine Aq (Be results126 _ _ (w.heap.size+1) 108 _ (0,0) _ rfl F υ108 rfl (by kernel_rfl)) rfl ?_;exact GA ak.out HZ.out
end
namespace Ni
theorem XaE(p:τ)(m i:Nat)(a:(kk p).length=m)(b:i<m):((kk p).take i++List.replicate (m-i) (0:Int)).set i ((kk p).getD i 0)=(kk p).take (i+1)++List.replicate (m-(i+1)) (0:Int):=by
 rw[take_snoc (by omega),AX];have e:((kk p).take i).length=i:=by rw[Ap];omega
 rw[DC _ _ (by omega),e,C8,show m-i=(m-(i+1))+1 from by omega,List.replicate_succ];rfl
theorem YW(a:Ω)(n c:Nat)(p:τ)(w:Γ)(h:Ag w a n c p)(W:n<=140737488355328):
 Calls prog 156 #[σ a n c] w λe w'=>(∃a' m,e=ω (θ #[σ a' m m,β (keyP p).2])/\Ag w' a' m m (keyP p).1)/\Λ w w':=by
 have q:=h.l;by_cases u:n%2=0
 case neg=>
  rw[IT (λB=>u (by rw[<-q];exact B.2))];simp only;have H:(n:Int)%2=1:=by omega
  clear h q u;go_enter func156,ntmps156;go_wp2_with fail;go_ret2;exact⟨⟨none,0,rfl,ag_nil _⟩,Ac _ _⟩
 have H:(n:Int)%2=0:=by omega
 have j:=right_any a n c p w h W;by_cases d:rightP p=true
 case neg=>
  rw[IT (λB=>d B.1)];simp only;rw[show rightP p=false from by simpa using d]at j;clear h q u d;go_enter func156,ntmps156;go_wp2_with fail;refine j.mono ?_;rintro e w1⟨rfl,rfl⟩;clear j;go_wp2_with fail;go_ret2;exact⟨⟨none,0,rfl,ag_nil _⟩,Ac _ _⟩
 rw[IS d (by omega)];simp only;rw[d]at j;obtain⟨m,X⟩:∃m,n/2=m:=⟨_,rfl⟩;have R:n=2*m:=by omega
 subst R;clear X u H;have t:Hid ((kk p).length=m):=Aa (by rw[Ny];omega);have S:=Aa (Nz p h.b d);have r:=Aa q;have I:=Aa h.b;have E:=Aa d;have HC:=Aa (λV=>ag_head h V);have ak:=run_make_row' (P:=prog) 32 5 (η 0) 1 υ32 info5b rfl .i64 .i64 m (by omega) (by omega);have b:Row w.heap.size (w.alloc (.cells (madeCells #[η 0] m) 5)) (List.replicate m 0):=by
  unfold Row;rw[Ak,made_bytes]
 have F:Λ w (w.alloc (.cells (madeCells #[η 0] m) 5)):=(Ac _ _).alloc (Ab _) _;have HR:=Aa b;have G:=Aa F;have ac:(2*m:Nat)%2=0:=by omega
 have ab:((2*m:Nat):Int)%2=0:=by omega
 have ad:((2*m:Nat):Int)/2=m:=by omega
 clear b F h q d;go_enter func156,ntmps156;go_wp2_with fail;refine j.mono ?_;rintro e w1⟨rfl,rfl⟩;clear j;go_wp2_with fail
 go_loopw [21] (λi v=>∃k:Nat,k<=m/\i=ι k/\Row w1.heap.size v ((kk p).take k++List.replicate (m-k) 0)/\Λ w1 v) (λi _=>m-(intOf i).toNat)
 case atStart=>exact⟨0,by omega,rfl,by rw[BM,AH,Nat.sub_zero];exact HR.out,G.out⟩
 case round=>
  clear HR G;obtain⟨k,hk,rfl,b,f⟩:=hrel;by_cases L:k<m
  ·have M:(k:Int)<m:=(by omega);have K:((kk p).take k++List.replicate (m-k) (0:Int)).length=m:=(by rw[Af,Bu,Ap,t.out];omega);have J:=b.cell (i:=k) (by omega);have al:=b.frozen k;have s:=b.set k ((kk p).getD k 0);rw[XaE p m k t.out L]at s;have D:=Qk p k (by have:=r.out;omega);obtain⟨g,off,rfl,af,N,o⟩:=HC.out (by omega);unfold maxLen at N;have am:=(f.cell (p:=⟨g,off+(2*k),none⟩) (Al (o (2*k) (by omega)))).trans (o (2*k) (by omega));have ah:=(f.cell (p:=⟨g,off+(2*k+1),none⟩) (Al (o (2*k+1) (by omega)))).trans (o (2*k+1) (by omega));have T:=(I.out _ (getD_mem (l:=p) (i:=2*k) (by have:=r.out;omega))).1;have U:=(I.out _ (getD_mem (l:=p) (i:=2*k+1) (by have:=r.out;omega))).1;have Q:=IR E.out (i:=2*k) (by have:=r.out;omega);have O:=IR E.out (i:=2*k+1) (by have:=r.out;omega);generalize ((kk p).take k++List.replicate (m-k) (0:Int)).getD k 0=z at J;generalize p.getD (2*k) 0=x at*;generalize p.getD (2*k+1) 0=y at*;rw[D]at s;have ai:=XbK T Q U O;have aa:2*k+1<2*m:=(by omega);have Z:(2*(k:Int))<((2*m:Nat):Int):=(by omega);have Y:(2*(k:Int)+1)<((2*m:Nat):Int):=(by omega);have ae:(2*(k:Int)).toNat=2*k:=(by omega);have aj:(2*(k:Int)+1).toNat=2*k+1:=(by omega);have C:=Aa s;have A:=Aa f;clear s f b K D o;go_wp2_with fail
   go_region
   all_goals
    go_wp2_with fail;exact⟨⟨k+1,by omega,by simp,C.out,(A.out.setCell (Ab _) _).drew⟩,by simp[intOf];omega⟩
  ·have M:¬(k:Int)<m:=(by omega);have e:k=m:=(by omega);subst e;rw[C8,List.replicate_zero,A7,A9 (by rw[t.out];exact Ab _)]at b;have C:=Aa b;have A:=Aa f;clear b f;go_wp2_with fail;go_ret2;exact⟨⟨_,_,rfl,row_ag C.out t.out S.out (by omega)⟩,A.out⟩
theorem Gu(w:Γ)(z:Int):OwnB (w.alloc (.cells #[η z] 5)) w.heap.size (σ (some ⟨w.heap.size,0,none⟩) 1 1) [z]:=
 ⟨rfl, .inr ⟨w.heap.size,1,#[η z],rfl,Ab _,Ak _ _,Ab _,by unfold maxLen;omega,rfl,rfl⟩⟩
theorem Py(w:Γ)(y z:Int):OwnB (w.alloc (.cells #[η y,η z] 5)) w.heap.size (σ (some ⟨w.heap.size,0,none⟩) 2 2) [y,z]:=
 ⟨rfl, .inr ⟨w.heap.size,2,#[η y,η z],rfl,Ab _,Ak _ _,Ab _,by unfold maxLen;omega,rfl,rfl⟩⟩
theorem Xbu:bits BinOp.or IntKind.u8 2 1=3:=by decide+kernel
theorem Xbv:bits BinOp.or IntKind.u8 0 1=1:=by decide+kernel
theorem W9(n:Nat)(leaf:Bool)(w:Γ)(f:n<=140737488355328):
 Calls prog 157 #[ι n,β leaf] w λe w'=>(∃v,e=ω v/\OwnB w' w.heap.size v (hdP n leaf))/\Λ w w':=by
 have c:=Xbu;have d:=Xbv;unfold hdP;by_cases a:n%2=0
 ·rw[Ai a];have b:(n:Int)%2=0:=by omega
  clear a;cases leaf with
  |true=>
   go_enter func157,ntmps157;go_wp2_with fail;go_ret;exact⟨⟨_,rfl,Py _ _ _⟩,below_new _ _⟩
  |false=>
   go_enter func157,ntmps157;go_wp2_with fail;go_ret;exact⟨⟨_,rfl,Py _ _ _⟩,below_new _ _⟩
 ·rw[Ae a];have b:(n:Int)%2=1:=by omega
  clear a;cases leaf with
  |true=>
   go_enter func157,ntmps157;go_wp2_with fail;go_ret;exact⟨⟨_,rfl,Gu _ _⟩,below_new _ _⟩
  |false=>
   go_enter func157,ntmps157;go_wp2_with fail;go_ret;exact⟨⟨_,rfl,Gu _ _⟩,below_new _ _⟩
theorem pack_any(a:Ω)(n c:Nat)(p:τ)(leaf:Bool)(w:Γ)(h:Ag w a n c p)(hn:n+2<=140737488355328):
 Calls prog 127 #[σ a n c,β leaf] w λe w'=>(∃a' m,e=ω (θ #[σ a' m m,ι ((packP p leaf).2:Nat)])/\Ag w' a' m m (packP p leaf).1)/\Λ w w':=by
 have o:=h.l;have G:=W9 n leaf w (by omega);have k:=OG (p:=p) (leaf:=leaf);have Q:=hd_len n leaf;have s:=IU (p:=p) (leaf:=leaf) h.b;rw[o]at k s;have E:packP p leaf=if rightP p=true then(kk (hdP n leaf++p),0)else([],40):=by unfold packP;rw[o]
 rw[E];clear E;generalize hdP n leaf=hd at*;obtain⟨⟨L,P⟩,d⟩:∃r,(if rightP p=true then(kk (hd++p),0)else(([]:τ),40))=r:=⟨_,rfl⟩;obtain⟨⟨k1,k2⟩,b⟩:∃r,(if rightP p=true then(kk (hd++p),true)else(([]:τ),false))=r:=⟨_,rfl⟩;rw[d];rw[b]at k;simp only
 have HT:Hid (k2=true->L=k1/\P=0):=Aa (λh=>by
  by_cases g:rightP p=true
  ·rw[Ai g]at d b;injection d with z y;injection b with A q;exact⟨z.symm.trans A,y.symm⟩
  ·rw[Ae g]at b;injection b with A q;rw[<-q]at h;cases h)
 have X:Hid (k2=false->L=[]/\P=40):=Aa (λh=>by
  by_cases g:rightP p=true
  ·rw[Ai g]at b;injection b with A q;rw[<-q]at h;cases h
  ·rw[Ae g]at d;injection d with z y;exact⟨z.symm,y.symm⟩)
 clear d b;have T:=Aa k;have V:=Aa s;have S:=Aa G;have u:=Aa h;have C:Hid (hd.length<=2):=Aa (by omega);have HL:=Aa o;clear k s G h Q o;go_enter func127,ntmps127;go_wp2_with fail;refine S.out.mono ?_;rintro e w1⟨⟨v,rfl,B⟩,I⟩;have Z:=Aa B;have x:=Aa I;clear B I;go_wp2_with (first|(at_builtin;refine DA rfl (.tmp 12) (.tmp 13) rfl w.heap.size _ hd rfl Z.out a n c p rfl (u.out.at x.out).i u.out.nil u.out.l (by have:=C.out;omega) x.out.size ?_;intro v2 w2 N F;obtain⟨a2,c2,rfl,D⟩:=OwnB.ag N V.out;have l:=Aa (x.out.trans F);have H:=Aa D;clear N F D;generalize J:(hd++p).length=len2 at H⊢;have U:=Aa J;clear J));have b:=YW a2 len2 c2 (hd++p) w2 H.out (by have Y:=U.out;rw[Af,HL.out]at Y;have:=C.out;omega);rw[T.out]at b;simp only at b;have O:=Aa b;clear b;cases k2 with
 |true=>
  obtain⟨rfl,rfl⟩:=HT.out rfl;refine O.out.mono ?_;rintro e W⟨⟨M,K,rfl,j⟩,f⟩;have R:=Aa j;have t:=Aa (l.out.trans (f.mono l.out.size));clear j f;go_wp2_with fail;go_ret2;exact⟨⟨M,K,rfl,R.out⟩,t.out⟩
 |false=>
  obtain⟨rfl,rfl⟩:=X.out rfl;refine O.out.mono ?_;rintro e W⟨⟨M,K,rfl,j⟩,f⟩;have t:=Aa (l.out.trans (f.mono l.out.size));clear j f;go_wp2_with fail;go_ret2;exact⟨⟨none,0,rfl,ag_nil _⟩,t.out⟩
end Ni
end Go.Proofs.YtkdlocloepbmcaaGreat
