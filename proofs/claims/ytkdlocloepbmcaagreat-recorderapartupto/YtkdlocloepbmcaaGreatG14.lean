/- The document's Right, Encode and Decode as plain functions: they are the program's. What the document's Empty answers. -/
import Derived.Test.YtkdlocloepbmcaaGreatG13
import Derived.Deep.CutRange
set_option linter.unusedVariables false
set_option linter.unusedSimpArgs false
set_option maxRecDepth 100000
set_option maxHeartbeats 8000000
open Go.Proofs.Tryz Go.RowKit
namespace Go.Proofs.YtkdlocloepbmcaaGreat
section
open Ni (rightP)
def emptyP(r:PR):Bool:=decide (r.k=0)&&decide (r.d=z32)&&decide (r.i.length=0)
def refersP(dk:τ->Int)(r:PR)(br:Bool):Bool:=
 if r.k=0 then emptyP r&&!br
 else if r.k=2 then decide (r.i.length=0)
 else if r.k=1 then(if 32<=r.i.length∨r.d≠z32 then false else decide (dk r.i≠0)&&(!br||decide (dk r.i=3)))
 else false
def refers16(dk:τ->Int)(ks:List PR):Bool:=ks.all λr=>refersP dk r false
def drightP(dk:τ->Int)(n:PN):Bool:=
 if rightP n.p=false∨64<n.p.length∨256<n.v.length then false
 else if n.k=1 then decide (1<=n.v.length)&&emptyP n.c&&decide (n.ks.length=0)
 else if n.k=2 then refersP dk n.c true&&decide (1<=n.p.length)&&decide (n.v.length=0)&&decide (n.ks.length=0)
 else if n.k≠3∨n.ks.length≠16∨n.p.length≠0∨emptyP n.c=false then false
 else refers16 dk n.ks&&(decide (2<=ways n.ks)||(decide (ways n.ks=1)&&decide (0<n.v.length)))
theorem Om(dk:τ->Int)(r:PR):refersP dk r false=rrefP dk r:=by
 unfold refersP rrefP emptyP;by_cases d:r.k=0
 ·simp[d]
 ·by_cases c:r.k=2
  ·simp[c]
  ·by_cases a:r.k=1
   ·by_cases b:32<=r.i.length
    ·simp[a,b,show¬r.i.length<32 from by omega]
    ·by_cases hd:r.d=z32
     ·simp[a,hd,show r.i.length<32 from by omega,show¬32<=r.i.length from b]
     ·simp[a,hd]
   ·simp[d,a,c]
theorem Uh(dk:τ->Int)(r:PR):emptyP r=(rrefP dk r&&decide (r.k=0)):=by
 unfold emptyP rrefP;by_cases a:r.k=0
 ·simp[a]
 ·simp[a]
theorem P9(dk:τ->Int)(f:dk []=0)(r:PR):refersP dk r true=(rrefP dk r&&(decide (r.k=2)||decide (dk r.i=3))):=by
 unfold refersP rrefP emptyP;by_cases b:r.k=0
 ·by_cases d:r.i=[]
  ·simp[b,d,f]
  ·simp[b,d]
 ·by_cases e:r.k=2
  ·simp[e]
  ·by_cases a:r.k=1
   ·by_cases c:32<=r.i.length
    ·simp[a,c,show¬r.i.length<32 from by omega]
    ·by_cases hd:r.d=z32
     ·simp[a,hd,show r.i.length<32 from by omega,show¬32<=r.i.length from c]
     ·simp[a,hd]
   ·simp[b,a,e]
theorem Ui(dk:τ->Int)(p:dk []=0)(n:PN):drightP dk n=nright dk n:=by
 unfold drightP nright knownP rpathP rvalueP rchildP rkidsP refers16;rw[P9 dk p,Uh dk];have l:(n.ks.all λr=>refersP dk r false)=n.ks.all (rrefP dk):=by congr 1;funext r;exact Om dk r
 rw[l];have m:n.p.length=0->rightP n.p=true:=λh=>by rw[Aw h];rfl
 by_cases k1:n.k=1
 ·by_cases a:rightP n.p=true
  ·by_cases f:n.p.length<=64
   ·by_cases e:n.v.length<=256
    ·cases k:rrefP dk n.c
     ·simp[k1,a]
     ·by_cases c:n.v=[]
      ·simp[k1,a,c]
      ·have:1<=n.v.length:=BH.2 c;by_cases g:n.c.k=0
       ·simp[k1,a,c,f,e,this,g,show¬64<n.p.length from by omega,show¬256<n.v.length from by omega]
       ·simp[k1,a,c,f,e,this,g]
    ·simp[k1,e,show 256<n.v.length from by omega]
   ·simp[k1,f,show 64<n.p.length from by omega]
  ·simp[k1,a]
 ·by_cases k2:n.k=2
  ·by_cases a:rightP n.p=true
   ·by_cases f:n.p.length<=64
    ·by_cases b:n.p=[]
     ·simp[k2,b]
     ·have o:1<=n.p.length:=BH.2 b;by_cases c:n.v=[]
      ·cases k:rrefP dk n.c
       ·simp[k2,a,c]
       ·simp[k2,a,c,f,b,o,show¬64<n.p.length from by omega]
      ·simp[k2,c]
    ·simp[k2,f,show 64<n.p.length from by omega]
   ·simp[k2,a]
  ·by_cases d:n.k=3
   ·by_cases b:n.p=[]
    ·have a:rightP n.p=true:=m (by rw[b];rfl);rw[b]at a;by_cases e:n.v.length<=256
     ·cases k:rrefP dk n.c
      ·simp[d,b]
      ·by_cases g:n.c.k=0
       ·by_cases i:n.ks.length=16
        ·by_cases j:0<n.v.length
         ·simp only[d,b,a,g,i,j];simp[e,show¬256<n.v.length from by omega];congr 1;rw[Bq];simp;omega
         ·simp only[d,b,a,g,i,j];simp[e,show¬256<n.v.length from by omega]
        ·simp[d,b,i]
       ·simp[d,b,g]
     ·simp[d,e,show 256<n.v.length from by omega]
    ·simp[d,b]
   ·simp[k1,k2,d]
end
theorem LV(K:Θ)(x:RV)(r:PR)(w:Γ)(h:RefAt K w x r):
 Calls prog 131 #[γ x.cells.toArray] w λe w'=>e=ω (β (emptyP r))/\Λ w w':=by
 have B:=Jp w x h.len;have a:=Aa (below_new w (.cells x.cells.toArray 118));obtain⟨l,f⟩:∃l,emptyP r=l:=⟨_,rfl⟩;rw[f];unfold emptyP at f;rw[<-h.1,<-h.2.1,h.2.2.2.2.l]at f;have j:=Aa f;have m:=h.len;have s:=h.2.2.2.2.2.1;clear h f;go_enter func131,ntmps131;go_upto_region 1 with fail;refine gen_w (p:=λv=>Code.wp _ _ _ _ v) (q:=λv=>RBx w.heap.size v x/\Λ w v) ⟨B,a.out⟩ ?_;clear B a;rintro v⟨B,n⟩;have a:=Aa n;have o:=Aa B;have i:=Aa m;have c0:=B.c0;have c1:=B.c33;clear n B m;by_cases c:x.k=0
 ·by_cases d:x.d=z32
  ·have k:=Aa (show(x.d==z32)=true from by simp[d]);have g:=Aa d;clear d;go_wp2_with (first|refine E5 rfl _ rfl w.heap.size 1 rfl x.d i.out o.out.digest ?_|refine G3 rfl _ _ rfl x.d z32 rfl rfl i.out Et true k.out ?_);go_ret;refine⟨Ao (λb=>ω (β b)) ?_,a.out⟩;rw[<-j.out,Bq]
   first|(simp[c,g.out];done)|(simp[c,g.out];omega)
  ·have k:=Aa (show(x.d==z32)=false from by simp[d]);have g:=Aa d;clear d;go_wp2_with (first|refine E5 rfl _ rfl w.heap.size 1 rfl x.d i.out o.out.digest ?_|refine G3 rfl _ _ rfl x.d z32 rfl rfl i.out Et false k.out ?_);go_ret;refine⟨Ao (λb=>ω (β b)) ?_,a.out⟩;rw[<-j.out,Bq]
   first|(simp[c,g.out];done)|(simp[c,g.out];omega)
 ·go_wp2_with fail;go_ret;refine⟨Ao (λb=>ω (β b)) ?_,a.out⟩;rw[<-j.out,Bq]
  first|(simp[c];done)|(simp[c];omega)
def DDPost(w:Γ)(o:Option PN):Ending->Γ->Prop:=λe w'=>Λ w w'/\
 match o with
 |none=>e=ω (θ #[γ nz.cells.toArray,ι 50])
 |some n=>∃y:NV,e=ω (θ #[γ y.cells.toArray,ι 0])/\NodeAt (λg=>w.heap.size<=g) w' y n
def DDSaid(b:τ):Prop:=∀(a:Ω)(n c:Nat)(w:Γ),Ag w a n c b->n<=140737488351232->Calls prog 158 #[σ a n c] w (DDPost w (ND b))
theorem YY{b:τ}(j:isB b){w:Γ}{e:Ending}{w':Γ}(h:DDPost w (ND b) e w'):Λ w w'/\∃y:NV,e=ω (θ #[γ y.cells.toArray,ι (if KD b=0 then 50 else 0)])/\y.k=KD b/\y.c.d.length=32:=by
 obtain⟨f,a⟩:=h;refine⟨f,?_⟩;unfold KD;cases c:ND b with
 |none=>rw[c]at a;exact⟨nz,a,rfl,rfl⟩
 |some n=>
  rw[c]at a;obtain⟨y,g,d⟩:=a;have i:¬kd (some n)=0:=by
   have:=KF (Gk j c).1;show¬n.k=0;omega
  rw[Ae i];exact⟨y,g,d.k,d.c.len⟩
theorem PA{br:Bool}(dk:Int):(decide (dk≠0)&&(!br||decide (dk=3)))=if dk=0 then false else if br=true then decide (dk=3)else true:=by
 cases br<;>by_cases h:dk=0<;>simp[h]
theorem LW(K:Θ)(x:RV)(r:PR)(br:Bool)(w:Γ)(h:RefAt K w x r)(hd:r.i.length<32->DDSaid r.i):
 Calls prog 132 #[γ x.cells.toArray,β br] w λe w'=>e=ω (β (refersP KD r br))/\Λ w w':=by
 have B:=Jp w x h.len;have a:=Aa (below_new w (.cells x.cells.toArray 118));have R:=Aa (show∀v,Λ w v->Calls prog 131 #[γ x.cells.toArray] v λe w'=>e=ω (β (emptyP r))/\Λ v w' from λv G=>LV K x r v (h.go (Keep.below G)));have HD:=Aa (show x.n<32->∀v,Λ w v->Calls prog 158 #[σ x.a x.n x.c] v (DDPost v (ND r.i))from λZ v G=>hd (by rw[h.2.2.2.2.l];exact Z) _ _ _ v (h.2.2.2.2.1.at G) h.2.2.2.2.2.1);have V:=Aa h.2.2.2.2.1.b;obtain⟨L,i⟩:∃L,refersP KD r br=L:=⟨_,rfl⟩;obtain⟨n,z⟩:∃n,KD r.i=n:=⟨_,rfl⟩;obtain⟨F,A⟩:∃F,emptyP r=F:=⟨_,rfl⟩;rw[i];rw[A]at R;unfold refersP at i;rw[PA,z,A,<-h.1,<-h.2.1,h.2.2.2.2.l]at i;have c:=Aa i;have I:=Aa z;have Q:=h.len;have aa:=h.2.2.2.2.2.1;clear h hd z i A;go_enter func132,ntmps132;go_upto_region 1 with fail;refine gen_w (p:=λv=>Code.wp _ _ _ _ v) (q:=λv=>RBx w.heap.size v x/\Λ w v) ⟨B,a.out⟩ ?_;clear B a;rintro v⟨B,m⟩;have a:=Aa m;have H:=Aa B;have j:=Aa Q;have c0:=B.c0;have c1:=B.c33;clear m B Q;by_cases O:x.k=0
 ·go_wp2_with (first|refine C3 rfl _ rfl w.heap.size 0 rfl x j.out H.out.all ?_);refine(R.out v a.out).mono ?_;rintro e w1⟨rfl,l⟩;have k:=Aa (below_go a.out l);clear l;cases br<;>cases F
  all_goals go_wp2_with fail
  all_goals go_ret
  all_goals refine⟨Ao (λb=>ω (β b)) ?_,k.out⟩
  all_goals rw[<-c.out]
  all_goals simp[O]
 ·by_cases D:x.k=2
  ·go_wp2_with fail;go_ret;refine⟨Ao (λb=>ω (β b)) ?_,a.out⟩;rw[<-c.out,Bq]
   first|(simp[D];done)|(simp[D];omega)
  ·by_cases f:x.k=1
   ·by_cases W:x.n<32
    ·have S:¬(x.n:Int)>=32:=(by omega);by_cases g:x.d=z32
     ·have E:=Aa (show(!(x.d==z32))=false from by simp[g]);have u:=Aa g;clear g;go_wp2_with (first|refine E5 rfl _ rfl w.heap.size 1 rfl x.d j.out H.out.digest ?_|refine G4 rfl _ _ rfl x.d z32 rfl rfl j.out Et false E.out ?_);refine(HD.out W v a.out).mono ?_;intro e w1 P;obtain⟨l,y,rfl,C,o⟩:=YY V.out P;rw[I.out]at C;rw[I.out];have k:=Aa (below_go a.out l);have Y:=Aa (show(nz.cells.toArray:Ξ).size=y.cells.toArray.size from by rw[VW,Ba,NV.len o]);have HI:=Aa (show(prog.info? 121).map (·.size)=some y.cells.toArray.size from by rw[I0,Ba,NV.len o]);have X:=Aa (Am y.one);have T:=Aa C;have U:=Aa o;clear P l C o HD a c0 c1;obtain⟨N,d⟩:∃N:Int,(if n=0 then(50:Int)else 0)=N:=⟨_,rfl⟩;rw[d];have M:=Aa d;clear d;go_upto_region 10 with(first|refine A5 rfl 121 _ _ rfl _ y.cells.toArray rfl rfl 121 _ (Ak w1 _) HI.out Y.out X.out ?_);refine gen_w (p:=λv=>Code.wp _ _ _ _ v) (q:=λv=>NBx w1.heap.size v y/\Λ w v) ⟨⟨AC _ _ _ _ _ _ (Ak w1 _),U.out⟩,Below.setRow (k.out.alloc k.out.size _) k.out.size _⟩ ?_;rintro v2⟨B,m⟩;have d0:=B.c0;rw[T.out]at d0;have t:=Aa m;clear B m;by_cases s:n=0
      ·have d:=M.out;rw[Ai s]at d;subst d;go_wp2_with fail;go_ret;refine⟨Ao (λb=>ω (β b)) ?_,t.out⟩;rw[<-c.out];simp[f,s]
      ·have d:=M.out;rw[Ae s]at d;subst d;cases br
       ·go_wp2_with fail;go_ret;refine⟨Ao (λb=>ω (β b)) ?_,t.out⟩;rw[<-c.out];simp[f,s,u.out];omega
       ·by_cases J:n=3
        ·go_wp2_with fail;go_ret;refine⟨Ao (λb=>ω (β b)) ?_,t.out⟩;rw[<-c.out];simp[f,J,u.out];omega
        ·go_wp2_with fail;go_ret;refine⟨Ao (λb=>ω (β b)) ?_,t.out⟩;rw[<-c.out];simp[f,J]
     ·have E:=Aa (show(!(x.d==z32))=true from by simp[g]);have u:=Aa g;clear g;go_wp2_with (first|refine E5 rfl _ rfl w.heap.size 1 rfl x.d j.out H.out.digest ?_|refine G4 rfl _ _ rfl x.d z32 rfl rfl j.out Et true E.out ?_);go_ret;refine⟨Ao (λb=>ω (β b)) ?_,a.out⟩;rw[<-c.out];simp[f,u.out]
    ·have S:(x.n:Int)>=32:=(by omega);go_wp2_with fail;go_ret;refine⟨Ao (λb=>ω (β b)) ?_,a.out⟩;rw[<-c.out];simp[f,show 32<=x.n from by omega]
   ·go_wp2_with fail;go_ret;refine⟨Ao (λb=>ω (β b)) ?_,a.out⟩;rw[<-c.out];simp[O,D,f]
namespace Ni
theorem rright_any(a:Ω)(n c:Nat)(b:τ)(w:Γ)(h:Ag w a n c b)(I:n<=140737488355328):
 Calls prog 130 #[σ a n c] w λe w'=>e=ω (β (rightP b))/\w'=w:=by
 have f:=Aa h.l;have HC:Hid (0<n->∃g off,a=some ⟨g,off,none⟩/\n<=c/\c<=maxLen/\∀j,j<n->w.cell? ⟨g,off+j,none⟩=some (η (b.getD j 0))):=Aa (ag_head h);have D:=Aa h.b;clear h;obtain⟨m,d⟩:∃r,rightP b=r:=⟨_,rfl⟩;rw[d];have k:=Aa d;clear d;go_enter func130,ntmps130;go_wp2_with fail
 go_loopw [3] (λi v=>∃j:Nat,j<=n/\i=ι j/\(∀i,i<j->b.getD i 0<=15)/\v=w) (λi _=>n-(intOf i).toNat)
 case atStart=>exact⟨0,by omega,rfl,λi t=>by omega,rfl⟩
 case round=>
  obtain⟨j,J,rfl,q,rfl⟩:=hrel;have p:=Aa q;clear q;by_cases A:j<n
  ·obtain⟨g,off,rfl,F,B,l⟩:=HC.out (by omega);unfold maxLen at B;have z:=l j A;have u:=D.out _ (getD_mem (show j<b.length by have:=f.out;omega));have y:Hid (b.getD j 0>15->rightP b=false):=Aa (λh=>OE (by have:=f.out;omega) h)
   have s:Hid (b.getD j 0<=15->∀i,i<j+1->b.getD i 0<=15):=Aa (λh i t=>by
    by_cases e:i=j
    ·rw[e];exact h
    ·exact p.out i (by omega))
   generalize b.getD j 0=x at z u y s;obtain⟨G,H⟩:=u;have C:(j:Int)<n:=(by omega);clear l;by_cases o:x>15
   ·have e:m=false:=k.out.symm.trans (y.out o);subst e;go_wp2_with fail;go_ret;exact⟨rfl,rfl⟩
   ·have E:¬x>15:=o;go_wp2_with fail;exact⟨⟨j+1,by omega,by simp,s.out (by omega),trivial⟩,by simp[intOf];omega⟩
  ·have C:¬(j:Int)<n:=(by omega);have e:m=true:=k.out.symm.trans (Mw λi t=>p.out i (by have:=f.out;omega));subst e;go_wp2_with fail;go_ret;exact⟨rfl,rfl⟩
end Ni
section
open Ni (rightP)
variable {w w0 w1 v' : World} {base k gI c i j : Nat} {ys : List V} {y : V} {x : NV} {b r : List Int} {deep : Bool}
theorem XaF:KD []=0:=by
 apply DD;intro h;obtain⟨n,e,_⟩:=Ih h;obtain⟨t,d,_⟩:=Fg (b:=[]) (λx a=>by simp at a) e;have:=G0 (b:=[]) (λx a=>by simp at a) d;have c:=Jg t;rw[this.1]at c;simp at c
theorem GX(K:Θ)(x:NV)(n:PN)(w:Γ)(h:NodeAt K w x n)(hd:∀r,(r=n.c∨r∈n.ks)->r.i.length<32->DDSaid r.i):
 Calls prog 90 #[γ x.cells.toArray] w λe w'=>e=ω (β (NR n))/\Λ w w':=by
 have B:=EC w x h.c.len;have c:=Aa (below_new w (.cells x.cells.toArray 121));obtain⟨q1,V⟩:∃q,rightP n.p=q:=⟨_,rfl⟩;obtain⟨q2,aa⟩:∃q,emptyP n.c=q:=⟨_,rfl⟩;obtain⟨q3,U⟩:∃q,refersP KD n.c true=q:=⟨_,rfl⟩;have bk:=h.p.2.1;have bn:=h.v.2.1
 have H1:=Aa (show∀v,Λ w v->Calls prog 130 #[σ x.pa x.pn x.pc] v λe w'=>e=ω (β q1)/\w'=v from λv H=>by
  rw[<-V];exact Ni.rright_any _ _ _ _ v (h.p.1.at H) (by omega))
 have H2:=Aa (show∀v,Λ w v->Calls prog 131 #[γ x.c.cells.toArray] v λe w'=>e=ω (β q2)/\Λ v w' from λv H=>by
  rw[<-aa];exact LV K x.c n.c v (h.c.go (Keep.below H)))
 have H3:=Aa (show∀v,Λ w v->Calls prog 132 #[γ x.c.cells.toArray,β true] v λe w'=>e=ω (β q3)/\Λ v w' from λv H=>by
  rw[<-U];exact LW K x.c n.c true v (h.c.go (Keep.below H)) (hd _ (.inl rfl)))
 have HD:=Aa (show∀r∈n.ks,r.i.length<32->DDSaid r.i from λr l=>hd r (.inr l));have ai:=Aa h.ks;have hm:=h.m;have D:=Aa hm.1;obtain⟨-,bg,bc,a3,ah⟩:=hm;unfold maxLen at bc;have a1:=Aa ah;obtain⟨al,d⟩:∃al,NR n=al:=⟨_,rfl⟩;rw[d];unfold NR at d;rw[<-Ui KD XaF]at d;unfold drightP at d;rw[V,aa,U,h.p.l,h.v.l,<-h.k,<-D.out]at d;have a:=Aa d;have X:=Aa h.c.len;clear h hd d ah V aa U;go_enter func90,ntmps90;go_upto_region 1 with fail;refine gen_w (p:=λv=>Code.wp _ _ _ _ v) (q:=λv=>NBx w.heap.size v x/\Λ w v) ⟨B,c.out⟩ ?_;clear B c;rintro v⟨B,hb⟩;have c:=Aa hb;have m:=Aa B;have c0:=B.c0;have c1:=B.c1;have c2:=B.c2;have c37:=B.c37;obtain⟨ka,R⟩:∃ka,x.ka=ka:=⟨_,rfl⟩;have N:=Aa R;rw[R]at c37 ai a1;clear hb B R;go_wp2_with fail;refine(H1.out v c.out).mono ?_;rintro e w1⟨rfl,rfl⟩;cases q1 with
 |false=>
  go_wp2_with fail;go_ret;refine⟨Ao (λb=>ω (β b)) ?_,c.out⟩;rw[<-a.out];simp
 |true=>
  by_cases am:64<x.pn
  ·have aw:(x.pn:Int)>64:=(by omega);go_wp2_with fail;go_ret;refine⟨Ao (λb=>ω (β b)) ?_,c.out⟩;rw[<-a.out];simp[am]
  ·have aw:¬(x.pn:Int)>64:=(by omega);by_cases ac:256<x.vn
   ·have ao:(x.vn:Int)>256:=(by omega);go_wp2_with fail;go_ret;refine⟨Ao (λb=>ω (β b)) ?_,c.out⟩;rw[<-a.out];simp[ac]
   ·have ao:¬(x.vn:Int)>256:=(by omega);have d:=a.out;rw[Ae (by simp[am,ac])]at d;have a:=Aa d;clear d;by_cases k1:x.k=1
    ·by_cases O:1<=x.vn
     ·have ap:(x.vn:Int)>=1:=(by omega);go_wp2_with (first|refine C3 rfl _ rfl w.heap.size 3 rfl x.c X.out m.out.child ?_);refine(H2.out _ c.out).mono ?_;rintro e w2⟨rfl,f⟩;have Z:=(m.out.go f).c37;have i:=Aa (below_go c.out f);rw[N.out]at Z;clear f;cases q2
      all_goals go_wp2_with fail
      all_goals go_ret
      all_goals refine⟨Ao (λb=>ω (β b)) ?_,i.out⟩
      all_goals rw[<-a.out,Bq]
      all_goals first|(simp[k1,O];done)|(simp[k1,O];omega)
     ·have ap:¬(x.vn:Int)>=1:=(by omega);go_wp2_with fail;go_ret;refine⟨Ao (λb=>ω (β b)) ?_,c.out⟩;rw[<-a.out,Bq]
      first|(simp[k1,O];done)|(simp[k1,O];omega)
    ·by_cases k2:x.k=2
     ·go_wp2_with (first|refine C3 rfl _ rfl w.heap.size 3 rfl x.c X.out m.out.child ?_);refine(H3.out _ c.out).mono ?_;rintro e w2⟨rfl,f⟩;have d1:=(m.out.go f).c1;have d2:=(m.out.go f).c2;have Z:=(m.out.go f).c37;have i:=Aa (below_go c.out f);rw[N.out]at Z;clear f;cases q3 with
      |false=>
       go_wp2_with fail;go_ret;refine⟨Ao (λb=>ω (β b)) ?_,i.out⟩;rw[<-a.out];simp[k2]
      |true=>
       by_cases s:1<=x.pn
       ·have aq:(x.pn:Int)>=1:=(by omega);by_cases F:x.vn=0
        ·have ax:(x.vn:Int)=0:=(by omega);have az:((x.vn:Int)==0)=true:=(by simp[F]);have J:=Aa F;clear F ax;go_wp2_with fail;go_ret;refine⟨Ao (λb=>ω (β b)) ?_,i.out⟩;rw[<-a.out,Bq]
         first|(simp[k2,s,J.out];done)|(simp[k2,s,J.out];omega)
        ·have az:((x.vn:Int)==0)=false:=(by simp;omega);have J:=Aa F;clear F;go_wp2_with fail;go_ret;refine⟨Ao (λb=>ω (β b)) ?_,i.out⟩;rw[<-a.out,Bq]
         first|(simp[k2,s,J.out];done)|(simp[k2,s,J.out];omega)
       ·have aq:¬(x.pn:Int)>=1:=(by omega);go_wp2_with fail;go_ret;refine⟨Ao (λb=>ω (β b)) ?_,i.out⟩;rw[<-a.out,Bq]
        first|(simp[k2,s];done)|(simp[k2,s];omega)
     ·by_cases k:x.k=3
      ·by_cases A:x.kn=16
       ·have C:=Aa A;rw[A]at D c37 bg a3;clear A;by_cases G:x.pn=0
        ·have ay:(!((x.pn:Int)==0))=false:=(by simp[G]);have HP:=Aa G;clear G;go_wp2_with (first|refine C3 rfl _ rfl w.heap.size 3 rfl x.c X.out m.out.child ?_);refine(H2.out _ c.out).mono ?_;rintro e w2⟨rfl,f⟩;have bb:=Aa (m.out.go f);have i:=Aa (below_go c.out f);clear f;cases q2 with
         |false=>
          go_wp2_with fail;go_ret;refine⟨Ao (λb=>ω (β b)) ?_,i.out⟩;rw[<-a.out];simp[k]
         |true=>
          go_wp2_with fail
          go_loopw [5,6] (λs5 s6 u=>∃j:Nat,j<=16/\s6=ι j/\s5=ι ((ways (n.ks.take j):Nat):Int)/\(∀r∈n.ks.take j,refersP KD r false=true)/\NBx w.heap.size u x/\Λ w u) (λ_ s6 _=>16-(intOf s6).toNat)
          case atStart=>exact⟨0,by omega,rfl,rfl,λr l=>by simp at l,bb.out,i.out⟩
          case round=>
           obtain⟨j,hj,rfl,rfl,ad,M,af⟩:=hrel;have Q:=Aa ad;have t:=Aa af;have a9:=Aa M;have r2:=M.c2;have bf:=M.c37;rw[N.out,C.out]at bf;clear ad af M;by_cases bm:j<16
           ·have a2:(j:Int)<16:=(by omega);obtain⟨r,l⟩:∃r,n.ks[j]?=some r:=⟨_,Ad (by have:=D.out;omega)⟩;obtain⟨g,off,y,a4,_,W,P⟩:=ai.out j r l;have a5:=Aa (EH W (λhl=>t.out.block g hl));have ar:=Aa W;have a8:=Aa P.len;obtain⟨q,hq⟩:∃q,refersP KD r false=q:=⟨_,rfl⟩
            have bi:=Aa (show∀u,Λ w u->Calls prog 132 #[γ y.cells.toArray,β false] u λe w'=>e=ω (β q)/\Λ u w' from λu hu=>by
             rw[<-hq];exact LW K y r false u (P.go (Keep.below hu)) (HD.out r (AL l)))
            have HQ:=Aa hq;have HR:=Aa l;have ba:ways (n.ks.take j)<=j:=(by have:=G9 (n.ks.take j);rw[Ap]at this;omega);have HW:=Aa (show ways (n.ks.take (j+1))=ways (n.ks.take j)+(if y.k≠0 then 1 else 0)from by rw[DO l,Iq,P.1]);clear W P hq l;subst a4;go_wp2_with (first|refine C3 rfl _ rfl g (off+j*34) rfl y a8.out a5.out ?_);refine(bi.out _ t.out).mono ?_;rintro e w3⟨rfl,Y⟩;have S:=Aa (a9.out.go Y);have a0:=S.out.c37;rw[N.out,C.out]at a0;have L:=Aa (below_go t.out Y);have sk:w3.cell? ⟨g,off+j*34,none⟩=some (ι y.k):=EH ar.out (λhl=>L.out.block g hl) 0 _ rfl;clear Y;cases q with
            |false=>
             go_wp2_with fail;go_ret;refine⟨Ao (λb=>ω (β b)) ?_,L.out⟩;rw[<-a.out];have a6:refers16 KD n.ks=false:=by
              unfold refers16;rw[List.all_eq_false];exact⟨r,AL HR.out,by rw[HQ.out];simp⟩
             rw[a6];simp[k]
            |true=>
             have ab:=Aa (show∀r∈n.ks.take (j+1),refersP KD r false=true from λr' ae=>by
              rw[DO HR.out]at ae;rcases AP.1 ae with h|h
              ·exact Q.out r' h
              ·simp only[Ay,BN,Dn]at h;rw[h];exact HQ.out)
             by_cases aj:y.k=0
             ·have o:=HW.out;rw[Ae (by simp[aj])]at o;have T:=Aa o;clear o;go_wp2_with fail
              go_roundw
              case rel=>exact⟨j+1,by omega,by simp,by rw[T.out];simp,ab.out,S.out,L.out⟩
              case measure=>simp[intOf];omega
             ·have o:=HW.out;rw[Ai aj]at o;have T:=Aa o;clear o;go_wp2_with fail
              go_roundw
              case rel=>exact⟨j+1,by omega,by simp,by rw[T.out];first|(simp;done)|(simp;omega),ab.out,S.out,L.out⟩
              case measure=>simp[intOf];omega
           ·have a2:¬(j:Int)<16:=(by omega);have ak:n.ks.take j=n.ks:=A9 (by have:=D.out;omega);rw[ak]at Q⊢;have av:=Aa (show refers16 KD n.ks=true from Dw.2 Q.out);have d:=a.out;rw[av.out,HP.out,C.out,Ae (by rw[k];decide),Ae (by rw[k];decide),Ae (by simp[k]),Du]at d;have a:=Aa d;have ba:ways n.ks<=16:=(by have:=G9 n.ks;have:=D.out;omega);generalize ways n.ks=z at*;clear ak d;by_cases h2:2<=z
            ·have bh:(z:Int)>=2:=(by omega);go_wp2_with fail;go_ret;refine⟨Ao (λb=>ω (β b)) ?_,t.out⟩;rw[<-a.out];simp[h2]
            ·have bh:¬(z:Int)>=2:=(by omega);by_cases I:z=1
             ·have a7:((z:Int)==1)=true:=(by simp[I]);have E:=Aa I;clear I;go_wp2_with fail;go_ret;refine⟨Ao (λb=>ω (β b)) ?_,t.out⟩;rw[<-a.out,Bq]
              first|(simp[E.out];done)|(simp[E.out];omega)
             ·have a7:((z:Int)==1)=false:=(by simp;omega);have E:=Aa I;clear I;go_wp2_with fail;go_ret;refine⟨Ao (λb=>ω (β b)) ?_,t.out⟩;rw[<-a.out,Bq]
              first|(simp[E.out,h2];done)|(simp[E.out,h2];omega)
        ·have ay:(!((x.pn:Int)==0))=true:=(by simp;omega);have HP:=Aa G;clear G;go_wp2_with fail;go_ret;refine⟨Ao (λb=>ω (β b)) ?_,c.out⟩;rw[<-a.out];simp[k,HP.out]
       ·have bj:¬(x.kn:Int)=16:=(by omega);have C:=Aa A;clear A;go_wp2_with fail;go_ret;refine⟨Ao (λb=>ω (β b)) ?_,c.out⟩;rw[<-a.out];simp[k,C.out]
      ·have bl:(!(x.k==3))=true:=(by simp[k]);go_wp2_with fail;go_ret;refine⟨Ao (λb=>ω (β b)) ?_,c.out⟩;rw[<-a.out];simp[k1,k2,k]
def AllL(w:Γ):List T->List V->Prop
 |[],[]=>True
 |t::ts,y::ys=>Lies w t y/\AllL w ts ys
 |_,_=>False
theorem AllL.len{w:Γ}:∀{ts:List T}{ys:List V},AllL w ts ys->ts.length=ys.length
 |[],[],_=>rfl
 |t::ts,y::ys,h=>by have:=AllL.len h.2;simp[this]
theorem AllP.lies{P:Θ}{w:Γ}:∀{ts:List T}{ys:List V},AllP P w ts ys->AllL w ts ys
 |[],[],_=>trivial
 |t::ts,y::ys,h=>⟨CS t y h.1,AllP.lies h.2⟩
theorem AllL.snoc{w:Γ}{t:T}{y:V}(a:Lies w t y):∀{ts:List T}{ys:List V},AllL w ts ys->AllL w (ts++[t]) (ys++[y])
 |[],[],_=>⟨a,trivial⟩
 |_::ts,_::ys,h=>⟨h.1,AllL.snoc a h.2⟩
theorem Na{w:Γ}{g:Nat}{all:List V}(a:∀j u,(all.flatMap V.cells)[j]?=some u->w.cell? ((⟨g,0,none⟩:Addr).add j)=some u):
 ∀(ts:List T)(ys pre:List V),all=pre++ys->AllL w ts ys->LiesAll w ts (ζ g 0) pre.length
 |[],[],pre,_,_=>Ds
 |t::ts,y::ys,pre,e,h=>by
  have b:=Na a ts ys (pre++[y]) (by rw[e];simp) h.2;rw[Af]at b;refine liesAll_cons.2 ⟨⟨g,0,y,rfl,?_,?_,?_,h.1⟩,b⟩
  ·have:=a (pre.length*3+0) (β y.l) (by rw[e];exact Fj pre y ys 0 _ rfl);rw[BO]at this;simpa using this
  ·have:=a (pre.length*3+1) (σ y.ba y.bn y.bc) (by rw[e];exact Fj pre y ys 1 _ rfl);rw[BO]at this;rw[show 0+pre.length*3+1=0+(pre.length*3+1)from by omega];exact this
  ·have:=a (pre.length*3+2) (σ y.ia y.m y.ic) (by rw[e];exact Fj pre y ys 2 _ rfl);rw[BO]at this;rw[show 0+pre.length*3+2=0+(pre.length*3+2)from by omega];exact this
theorem JX{v:Δ}{ts:List T}(b:OwnI w base v ys)(h:AllL w ts ys):
 ∃c a,v=σ c ts.length a/\ts.length<=a/\a<=maxLen/\LiesAll w ts c 0:=by
 have e:=h.len;rcases b.2 with⟨rfl,k⟩|⟨g,cap,cur,rfl,i,m,j,d,l,f⟩
 ·have:ts=[]:=Aw (by omega);subst this;exact⟨none,0,rfl,Ab _,by unfold maxLen;omega,Ds⟩
 ·exact⟨some ⟨g,0,none⟩,cap,by rw[e],by omega,d,Na (DP b (g:=g) rfl) ts ys [] rfl h⟩
theorem QS{wr:World}{it:Value}{ts:List T}{t:T}(L:Below w0.heap.size w0 w)(s:OwnI wr w.heap.size it ys)(J:AllP (λb=>w.heap.size<=b/\it.ownBlock≠some b) wr ts ys)(x:Below w.heap.size w wr)(n:Below wr.heap.size wr w1)
 (Q:Lies w0 t y) (H:ys.length<=1000000000) (ty:TypeId):
 ∃v' a,(Builtin.append_ #[106,106] ty #[it, .slice (some ⟨w1.heap.size,0,none⟩) 1 1]).run prog (w1.alloc (.cells #[.bool y.l, .slice y.ba y.bn y.bc, .slice y.ia y.m y.ic] 108))= .ok v' a/\
  Below w.heap.size w a/\w1.heap.size<=a.heap.size/\
  ∃i d,v'= .slice i (ts.length+1) d/\ts.length+1<=d/\d<=maxLen/\∀c,a.heap.size<=c.heap.size->(∀b,w.heap.size<=b->b<a.heap.size->c.heap[b]?=a.heap[b]?)->Below w0.heap.size w0 c->LiesAll c (ts++[t]) i 0:=by
 obtain⟨Y,E⟩:∃Y:Obj,Obj.cells #[.bool y.l, .slice y.ba y.bn y.bc, .slice y.ia y.m y.ic] 108=Y:=⟨_,rfl⟩;rw[E];have M:(w1.alloc Y).heap.size=w1.heap.size+1:=by simp
 have f:Below wr.heap.size wr (w1.alloc Y):=n.alloc n.size _;have hz:=x.size;have Z:=n.size;have z:(w1.alloc Y).heap[w1.heap.size]?=some Y:=Ak w1 Y;have G:∀j u,(V.cells y)[j]?=some u->(w1.alloc Y).cell? ((⟨w1.heap.size,0,none⟩:Addr).add j)=some u:=by
  intro j u S;rw[BO,A6];rw[<-E]at z⊢;rw[Aj _ _ _ _ _ _ z];simpa[V.cells]using S
 obtain⟨v',a,I,r,k,W⟩:=Jf (Eg s λg _ o=>f.block g o) y _ 1 G (by omega) H ty;have v:∀b,b<w1.heap.size+1->it.ownBlock≠some b->a.heap[b]?=(w1.alloc Y).heap[b]?:=λb e K=>k.block b (by rw[M];exact e) (λh=>K h.symm);have N:w1.heap.size<=a.heap.size:=by have:=k.size;omega
 have A:Below w.heap.size w a:=by
  refine x.trans ⟨k.os.trans f.os,k.tape.trans f.tape,k.output.trans f.output,Au f.size k.size,λb e=>?_⟩;rw[v b (by omega) (λh=>by have:=(Fa s h).1;omega)];exact f.block b (by omega)
 have F:AllP (λb=>w.heap.size<=b) a ts ys:=J.mono λb e l=>⟨by rw[v b (by omega) e.2];exact f.block b l,e.1⟩;refine⟨v',a,I,A,N,?_⟩;have key:∀c,a.heap.size<=c.heap.size->(∀b,w.heap.size<=b->b<a.heap.size->c.heap[b]?=a.heap[b]?)->Below w0.heap.size w0 c->∃i d,v'= .slice i (ts++[t]).length d/\(ts++[t]).length<=d/\d<=maxLen/\LiesAll c (ts++[t]) i 0:=λc C m p=>
  JX (Eg r λg o l=>m g (Fa r o).1 l) (AllL.snoc (Cl p t y Q) (AllP.lies (P:=λb=>w.heap.size<=b) (F.mono λb e l=>⟨m b e l,e⟩)))
 obtain⟨i,d,q,D,U,_⟩:=key a (Ab _) (λ_ _ _=>rfl) (below_go L A);rw[Af]at q D;refine⟨i,d,q,D,U,λc C m p=>?_⟩;obtain⟨aa,X,B,_,_,R⟩:=key c C m p;rw[q,Af]at B;injection B with O q2 q3;rw[O];exact R
def trunc(base:Nat)(w:Γ):Γ:={w with heap:=w.heap.take base}
theorem IK(h:base<=w.heap.size):(trunc base w).heap.size=base:=by
 show(w.heap.take base).size=base;simp;omega
theorem GY(h:k<base):(trunc base w).heap[k]?=w.heap[k]?:=by
 show(w.heap.take base)[k]?=w.heap[k]?;rw[Array.take_eq_extract,Array.getElem?_extract];by_cases a:k<w.heap.size
 ·rw[Ai (by omega),A6]
 ·rw[Ae (by omega),Array.getElem?_eq_none (by omega)]
theorem Kx(h:base<=w.heap.size):Below base (trunc base w) w:=⟨rfl,rfl,rfl,by rw[IK h];exact h,λk a=>(GY a).symm⟩
theorem Ky{w':Γ}(h:base<=w.heap.size)(c:w.heap.size<=w'.heap.size)(a:Below base (trunc base w) w'):Below base w w':=⟨a.os,a.tape,a.output,c,λk b=>(a.block k b).trans (GY b)⟩
theorem QT{wr:World}{it:Value}{ts:List T}{t:T}(d:base<=wr.heap.size)(j:OwnI wr base it ys)(i:AllP (λb=>base<=b/\it.ownBlock≠some b) wr ts ys)(e:Below wr.heap.size wr w1)
 (l:LiesP (λb=>wr.heap.size<=b) w1 t y) (k:ys.length<=1000000000) (ty:TypeId):
 ∃v' a,(Builtin.append_ #[106,106] ty #[it, .slice (some ⟨w1.heap.size,0,none⟩) 1 1]).run prog (w1.alloc (.cells #[.bool y.l, .slice y.ba y.bn y.bc, .slice y.ia y.m y.ic] 108))= .ok v' a/\
  OwnI a base v' (ys++[y])/\AllP (λb=>base<=b/\v'.ownBlock≠some b) a (ts++[t]) (ys++[y])/\Below base wr a:=by
 have c:=IK d;obtain⟨v',a,m,f,h,g,_,n⟩:=JT (w:=trunc base wr) (wr:=wr) (w1:=w1) (by rw[c];exact j) (by rw[c];exact i) (by rw[c];exact Kx d) e l k ty;rw[c]at f h g;exact⟨v',a,m,f,h,Ky d (by have:=e.size;omega) g⟩
theorem PB{wr:World}{it:Value}{ts:List T}{t:T}(q:w0.heap.size<=base)(d:Below w0.heap.size w0 wr)(g:base<=wr.heap.size)(m:OwnI wr base it ys)(o:AllP (λb=>base<=b/\it.ownBlock≠some b) wr ts ys)(h:Below wr.heap.size wr w1)
 (r:Lies w0 t y) (p:ys.length<=1000000000) (ty:TypeId):
 ∃v' a,(Builtin.append_ #[106,106] ty #[it, .slice (some ⟨w1.heap.size,0,none⟩) 1 1]).run prog (w1.alloc (.cells #[.bool y.l, .slice y.ba y.bn y.bc, .slice y.ia y.m y.ic] 108))= .ok v' a/\
  Below base wr a/\
  ∃j f,v'= .slice j (ts.length+1) f/\ts.length+1<=f/\f<=maxLen/\∀e,a.heap.size<=e.heap.size->(∀b,base<=b->b<a.heap.size->e.heap[b]?=a.heap[b]?)->Below w0.heap.size w0 e->LiesAll e (ts++[t]) j 0:=by
 have c:=IK g;have n:Below w0.heap.size w0 (trunc base wr):=⟨d.os,d.tape,d.output,by rw[c];exact q,λk s=>(GY (by omega)).trans (d.block k s)⟩;obtain⟨v',a,u,i,v,l⟩:=QS (w:=trunc base wr) (wr:=wr) (w1:=w1) n (by rw[c];exact m) (by rw[c];exact o) (by rw[c];exact Kx g) h r p ty;rw[c]at i l;exact⟨v',a,u,Ky g (by have:=h.size;omega) i,l⟩
structure En(w v:Γ)(x:NV)(gI:Nat)(it:Δ):Prop where
 row:v.heap[gI]?=some (.cells #[β true,ε,it] 108)
 bx:NBx w.heap.size v x
 bel:Λ w v
 gi:w.heap.size<gI
 sz:gI+1<=v.heap.size
theorem En.go{v:Γ}{it:Δ}(h:En w v x gI it)(a:Below (gI+1) v v'):En w v' x gI it:=
 ⟨(a.block gI (by omega)).trans h.row,⟨(a.block _ (by have:=h.gi;omega)).trans h.bx.row,h.bx.l⟩,
   ⟨a.os.trans h.bel.os,a.tape.trans h.bel.tape,a.output.trans h.bel.output,Au h.bel.size a.size,λk b=>(a.block k (by have:=h.gi;omega)).trans (h.bel.block k b)⟩,h.gi,Au h.sz a.size⟩
theorem En.all{v:Γ}{it:Δ}(h:En w v x gI it)(a:Λ v v'):En w v' x gI it:=h.go ⟨a.os,a.tape,a.output,a.size,λk b=>a.block k (by have:=h.sz;omega)⟩
theorem En.c0{v:Γ}{it:Δ}(h:En w v x gI it):v.cell? ⟨gI,0,none⟩=some (β true):=by rw[Aj _ _ _ _ _ _ h.row];rfl
theorem En.c1{v:Γ}{it:Δ}(h:En w v x gI it):v.cell? ⟨gI,1,none⟩=some (ε):=by rw[Aj _ _ _ _ _ _ h.row];rfl
theorem En.c2{v:Γ}{it:Δ}(h:En w v x gI it):v.cell? ⟨gI,2,none⟩=some it:=by rw[Aj _ _ _ _ _ _ h.row];rfl
theorem En.fz{v:Γ}{it:Δ}(h:En w v x gI it):∀o,v.frozen? ⟨gI,o,none⟩=false:=λo=>AN _ _ _ _ _ h.row
theorem En.put{v:Γ}{it:Δ}(h:En w v x gI it)(a:Δ):En w (v.setCell ⟨gI,2,none⟩ a) x gI a:=by
 refine⟨?_,⟨(AA _ _ _ _ (by show w.heap.size≠gI;have:=h.gi;omega)).trans h.bx.row,h.bx.l⟩,h.bel.setCell (by have:=h.gi;show w.heap.size<=gI;omega) a,h.gi,by simpa using h.sz⟩;have:=AU v gI 2 _ 108 a h.row;rw[this];rfl
def So(gI:Nat)(v:Γ)(it:Δ)(ts:List T):Prop:=∃ys:List V,OwnI v (gI+1) it ys/\AllP (λb=>gI+1<=b/\it.ownBlock≠some b) v ts ys
theorem So.put{v:Γ}{it:Δ}{ts:List T}(h:So gI v it ts)(u:Δ):So gI (v.setCell ⟨gI,2,none⟩ u) it ts:=by
 obtain⟨ys,a,e⟩:=h;exact⟨ys,Eg a λg c _=>AA _ _ _ _ (by have:=(Fa a c).1;show g≠gI;omega),e.mono λb d _=>⟨AA _ _ _ _ (by show b≠gI;omega),d⟩⟩
theorem So.all{v:Γ}{it:Δ}{ts:List T}(h:So gI v it ts)(c:Λ v v'):So gI v' it ts:=by
 obtain⟨ys,e,f⟩:=h;exact⟨ys,Eg e λg _ a=>c.block g a,f.mono λb d a=>⟨c.block b a,d⟩⟩
theorem XaG(gI:Nat)(v:Γ):So gI v (ε) []:=⟨[],Dg _ _ _ _,trivial⟩
theorem WA{wr:Γ}{it:Δ}{ts:List T}{t:T}(l:gI+1<=wr.heap.size)(h:So gI wr it ts)(d:Λ wr w1)(g:LiesP (λb=>wr.heap.size<=b) w1 t y)(m:ts.length<=1000)(ty:TypeId):
 ∃v' a,(Builtin.append_ #[106,106] ty #[it,σ (some ⟨w1.heap.size,0,none⟩) 1 1]).run prog (w1.alloc (.cells #[β y.l,σ y.ba y.bn y.bc,σ y.ia y.m y.ic] 108))= .ok v' a/\So gI a v' (ts++[t])/\Below (gI+1) wr a:=by
 obtain⟨ys,j,c⟩:=h;obtain⟨v',a,e,k,f,i⟩:=QT l j c d g (by have:=c.len;omega) ty;exact⟨v',a,e,⟨_,k,f⟩,i⟩
def Full(gI:Nat)(w v:Γ)(it:Δ)(ts:List T):Prop:=∃ia ic,it=σ ia ts.length ic/\ts.length<=ic/\ic<=maxLen/\LiesAll v ts ia 0
theorem So.full{v:Γ}{it:Δ}{ts:List T}(h:So gI v it ts):Full gI w v it ts:=by
 obtain⟨ys,a,b⟩:=h;exact JX a b.lies
theorem YZ{wr:Γ}{it:Δ}{ts:List T}{t:T}(c:En w wr x gI it)(h:So gI wr it ts)(f:Λ wr w1)(i:Lies w t y)(q:ts.length<=1000)(ty:TypeId):
 ∃v' a,(Builtin.append_ #[106,106] ty #[it,σ (some ⟨w1.heap.size,0,none⟩) 1 1]).run prog (w1.alloc (.cells #[β y.l,σ y.ba y.bn y.bc,σ y.ia y.m y.ic] 108))= .ok v' a/\Below (gI+1) wr a/\Full gI w (a.setCell ⟨gI,2,none⟩ v') v' (ts++[t]):=by
 obtain⟨ys,o,d⟩:=h;obtain⟨v',a,k,e,j,p,m,n,g,l⟩:=PB (base:=gI+1) (by have:=c.gi;omega) c.bel c.sz o d f i (by have:=d.len;omega) ty;refine⟨v',a,k,e,j,p,by rw[Af];exact m,by rw[Af];exact n,g,l _ (by simp) (λb r _=>AA _ _ _ _ (by show b≠gI;omega)) ((c.go e).put v').bel⟩
theorem ownB_nil(w:Γ)(base:Nat):OwnB w base (ε) []:=⟨rfl, .inl ⟨rfl,rfl⟩⟩
theorem QU{a:Ω}{n:Nat}{bs:τ}(h:OwnB w base (σ a n c) bs):∀g off,a=some ⟨g,off,none⟩->base<=g/\∀o,w.frozen? ⟨g,o,none⟩=false:=by
 intro g off e;subst e;refine⟨h.lt g rfl,λo=>?_⟩;rcases h.2 with⟨f,_⟩|⟨g',cap,cur,d,_,i,_⟩
 ·cases f
 ·injection d with b _ _;cases b;exact AN _ _ _ _ _ i
theorem QV(a:Ω)(n c:Nat)(b:τ)(w:Γ)(h:Ag w a n c b)(r:n<=140737488351232):
 Calls prog 173 #[σ a n c] w λe w'=>(∃a' c',e=ω (σ a' n c')/\Ag w' a' n c' b/\∀g off,a'=some ⟨g,off,none⟩->w.heap.size<=g/\∀o,w'.frozen? ⟨g,o,none⟩=false)/\Λ w w':=by
 have d:=Aa h;clear h;go_enter func173,ntmps173;go_wp2_with (first|(at_builtin;refine DA rfl (.tmp 4) (.tmp 5) rfl w.heap.size _ [] rfl (ownB_nil w _) a n c b rfl d.out.i d.out.nil d.out.l (by simp;omega) (Ab _) ?_;intro q w1 f j;rw[AH]at f;obtain⟨p,c1,rfl,i⟩:=OwnB.ag f d.out.b;rw[d.out.l]at i⊢;have k:=Aa j;have m:=Aa i;have l:=Aa (QU f);clear f j i));go_ret;exact⟨⟨p,c1,rfl,m.out,l.out⟩,k.out⟩
def pc(b:τ)(i j:Nat):τ:=(b.take j).drop i
theorem IL(h:j<=b.length):(pc b i j).length=j-i:=by unfold pc;rw[A3,Ap];omega
theorem WB(h:j<=i):pc b i j=[]:=by unfold pc;rw[Bx];rw[Ap];omega
theorem J5(h:i<j)(a:j<=b.length):pc b i j=b.getD i 0::pc b (i+1) j:=by
 unfold pc;rw[Bv (by rw[Ap];omega),List.getElem_take,List.getD,Ad (by omega)];rfl
theorem WC{f t:Nat}(h:i+t<=j):((pc b i j).take t).drop f=pc b (i+f) (i+t):=by
 unfold pc;rw[List.take_drop,List.drop_drop,Ev,CJ h]
theorem QW(h:i+k<j)(a:j<=b.length):(pc b i j).getD k 0=b.getD (i+k) 0:=by
 unfold pc;rw[List.getD,CK,AT h];rfl
theorem WD{x:Int}(h:x∈pc b i j):x∈b:=Bb (BA h)
def zeroV:Δ:=γ #[β false,ε,ε]
def FPost(w:Γ)(i:Nat)(r:R):Ending->Γ->Prop:=λe w'=>Λ w w'/\
 match r with
 | .bad er=>e=ω (θ #[γ #[β false,ε,ε],ι 0,ι (er:Nat)])/\er≠0
 | .ok t m=>∃y:V,e=ω (θ #[γ #[β y.l,σ y.ba y.bn y.bc,σ y.ia y.m y.ic],ι (i+m:Nat),ι 0])/\LiesP (λb=>w.heap.size<=b) w' t y
def FSaid(k:Nat):Prop:=∀(a:Ω)(n c:Nat)(b:τ)(w:Γ),Ag w a n c b->n<=140737488351232->∀i j d:Nat,i<=j->j<=n->d+k=8->
 Calls prog 170 #[σ a n c,ι i,ι j,ι d] w (FPost w i (rd k (pc b i j)))
def GPost(w:Γ)(j:Nat)(r:RL):Ending->Γ->Prop:=λe w'=>Λ w w'/\
 match r with
 | .bad er=>e=ω (θ #[γ #[β false,ε,ε],ι 0,ι (er:Nat)])/\er≠0
 | .ok ts=>∃ia ic,e=ω (θ #[γ #[β true,ε,σ ia ts.length ic],ι j,ι 0])/\ts.length<=ic/\ic<=maxLen/\LiesPAll (λb=>w.heap.size<=b) w' ts ia 0
theorem LX(h:3<c):lenIn r c=(0,23):=by unfold lenIn;rw[Ai h]
theorem Kz(h:¬3<c)(a:r.length<c):lenIn r c=(0,22):=by unfold lenIn;rw[Ae h,Ai a]
theorem LY(h:¬3<c)(a:¬r.length<c)(b:r.headD 0=0∨val (r.take c)<=55):lenIn r c=(0,23):=by unfold lenIn;rw[Ae h,Ae a,Ai b]
theorem QX(h:¬3<c)(a:¬r.length<c)(b:¬(r.headD 0=0∨val (r.take c)<=55)):lenIn r c=(val (r.take c),0):=by unfold lenIn;rw[Ae h,Ae a,Ae b]
theorem On{x:Int}(a:¬(192<=x/\deep=true))(b:¬x<128):hdr deep (x::r)=if 55<nOf x then(if(lenIn r (nOf x-55)).2≠0 then .bad (lenIn r (nOf x-55)).2 else if(x::r).length-(1+(nOf x-55))<(lenIn r (nOf x-55)).1 then .bad 22 else .ok (1+(nOf x-55)) (1+(nOf x-55)+(lenIn r (nOf x-55)).1))else if(x::r).length-1<nOf x then .bad 22 else .ok 1 (1+nOf x):=by
 unfold hdr;simp only;rw[Ae a,Ae b]
structure Hd(deep:Bool)(x:Int)(r:τ)(f L:Nat):Prop where
 f1:1<=f
 f4:f<=4
 L24:L<16777216
 iff:f=1↔L<=55
 fle:f<=r.length+1
 eq:hdr deep (x::r)=if(r.length+1)-f<L then .bad 22 else .ok f (f+L)
theorem WE{x:Int}(a:¬(192<=x/\deep=true))(b:¬x<128)(c:¬55<nOf x):Hd deep x r 1 (nOf x):=
 ⟨Ab _,by omega,by omega,by omega,by omega,by rw[On a b,Ae c];rfl⟩
theorem S9{x:Int}(g:∀y∈r,0<=y/\y<256)(d:¬(192<=x/\deep=true))(b:¬x<128)(f:55<nOf x)(c:¬3<nOf x-55)(e:¬r.length<nOf x-55)(a:¬(r.headD 0=0∨val (r.take (nOf x-55))<=55)):Hd deep x r (1+(nOf x-55)) (val (r.take (nOf x-55))):=by
 have h:=DE g (j:=nOf x-55) (by omega) (by omega);refine⟨by omega,by omega,by omega,by omega,by omega,?_⟩;rw[On d b,Ai f,QX c e a];simp only[ne_eq,not_true,Dm];rfl
theorem JY{x:Int}{a:Nat}(c:¬(192<=x/\deep=true))(e:¬x<128)(d:55<nOf x)(f:lenIn r (nOf x-55)=(0,a))(b:a≠0):hdr deep (x::r)= .bad a:=by
 rw[On c e,Ai d,f];simp only;rw[Ai b]
theorem Fh{g:τ->R}{e:Nat}(h:hdr deep b= .bad e):rd1 g deep b= .bad e:=by unfold rd1;rw[h]
theorem QY(a:Ω)(n c i j d:Nat)(w:Γ)(k:Nat)(b:τ)(h:¬i<j)(l:i<=140737488351232)(e:rd k (pc b i j)= .bad 22):
 Calls prog 170 #[σ a n c,ι i,ι j,ι d] w (FPost w i (rd k (pc b i j))):=by
 rw[e];have g:(i:Int)>=j:=by omega
 clear e;go_enter func170,ntmps170
 go_upto_if 18 with fail
 refine gen_w (p:=λv=>Code.wp _ _ _ _ v) (q:=Rb w) (Rb.new w) ?_;intro v R;have x0:=R.x0;have x1:=R.x1;have x2:=R.x2;have xf:=R.xf;have HR:=Aa R;clear R;go_wp2_with fail;have f:=put3 HR.out.row (β false) (ε) (ε);refine Aq (Bf results170 _ _ w.heap.size _ _ _ rfl f) rfl ?_;exact⟨Ci HR.out.bel (Ab _) _ _ _,rfl,by decide⟩
theorem PC(a:Ω)(n c i j:Nat)(w:Γ)(b:τ)(h:Ag w a n c b)(B:n<=140737488351232)(z:i<j)(C:j<=n)(x:Int)(e:b.getD i 0=x)(s:192<=x)(k:R)(m:k= .bad 21):
 Calls prog 170 #[σ a n c,ι i,ι j,ι 8] w (FPost w i k):=by
 subst m;obtain⟨g,off,rfl,A,o,l⟩:=ag_head h (by omega);unfold maxLen at o;have d:=l i (by omega);rw[e]at d;have y:=(h.b x (by rw[<-e,List.getD,Ad (by rw[h.l];omega)];exact Bh _)).2;have t:(i:Int)<j:=by omega
 have u:(i:Int)<n:=by omega
 clear e l h;go_enter func170,ntmps170
 go_upto_if 18 with fail
 have f:=AS (Rb.new w).bel d;refine gen_w (p:=λv=>Code.wp _ _ _ _ v) (q:=λv=>Rb w v/\v.cell? ⟨g,off+i,none⟩=some (η x)) ⟨Rb.new w,f⟩ ?_;clear d f;rintro v⟨R,d⟩;have x0:=R.x0;have x1:=R.x1;have x2:=R.x2;have xf:=R.xf;have HR:=Aa R;clear R;go_wp2_with fail;have r:=put3 HR.out.row (β false) (ε) (ε);refine Aq (Bf results170 _ _ w.heap.size _ _ _ rfl r) rfl ?_;exact⟨Ci HR.out.bel (Ab _) _ _ _,rfl,by decide⟩
theorem QZ(a:Ω)(n c i j d:Nat)(w:Γ)(b:τ)(h:Ag w a n c b)(J:n<=140737488351232)(H:i<j)(K:j<=n)(x:Int)(l:b.getD i 0=x)(C:x<128)(o:R)(t:o= .ok (.mk false [x] []) 1):
 Calls prog 170 #[σ a n c,ι i,ι j,ι d] w (FPost w i o):=by
 subst t;obtain⟨g,off,rfl,I,z,s⟩:=ag_head h (by omega);unfold maxLen at z;have k:=s i (by omega);rw[l]at k;have G:=(h.b x (by rw[<-l,List.getD,Ad (by rw[h.l];omega)];exact Bh _)).1;have E:(i:Int)<j:=by omega
 have F:(i:Int)<n:=by omega
 clear l s h;go_enter func170,ntmps170
 go_upto_if 18 with fail
 have m:=AS (Rb.new w).bel k;refine gen_w (p:=λv=>Code.wp _ _ _ _ v) (q:=λv=>Rb w v/\v.cell? ⟨g,off+i,none⟩=some (η x)) ⟨Rb.new w,m⟩ ?_;clear k m;rintro v⟨R,k⟩;have HR:=Aa R;clear R;have f:=HR.out.alloc (.cells #[η x] 5);have r:=Aa f;have x0:=f.x0;have x1:=f.x1;have x2:=f.x2;have xf:=f.xf;clear f;go_wp2_with fail;have B:=put3 r.out.row (β false) (σ (some ⟨v.heap.size,0,none⟩) 1 1) (ε);refine Aq (Bf results170 _ _ w.heap.size _ _ _ rfl B) rfl ?_;have L:=HR.out.bel.size;have D:=lt_of_get HR.out.row;refine⟨Ci r.out.bel (Ab _) _ _ _,⟨false,some ⟨v.heap.size,0,none⟩,1,1,none,0,0⟩,by simp,?_⟩
 have u:Row v.heap.size (((v.alloc (.cells #[η x] 5)).setCell ⟨w.heap.size,0,none⟩ (β false)).setCell ⟨w.heap.size,1,none⟩ (σ (some ⟨v.heap.size,0,none⟩) 1 1)|>.setCell ⟨w.heap.size,2,none⟩ (ε)) [x]:=
  (Dk (by omega) _ _ _).trans (Ak _ _)
 exact Fb u rfl (λy A=>by
  have e:y=x:=by simpa using A
  omega) (by omega) (by omega)
set_option maxRecDepth 20000 in
theorem PD(gg:τ->R)(a:Ω)(n c i j d:Nat)(w:Γ)(b:τ)(h:Ag w a n c b)(hn:n<=140737488351232)(bf:i<j)(hj:j<=n)(hd:d<=8)(x:Int)(hx:b.getD i 0=x)(b3:128<=x)(bh:x<192)(J:R)
 (ax:J=rd1 gg (decide (d=8)) (x::pc b (i+1) j)):
 Calls prog 170 #[σ a n c,ι i,ι j,ι d] w (FPost w i J):=by
 obtain⟨g,off,rfl,cg,bj,hc⟩:=ag_head h (by omega);unfold maxLen at bj;have af:=hc i (by omega);rw[hx]at af;have a8:=h.l;have bm:=(h.b x (by rw[<-hx,List.getD,Ad (by omega)];exact Bh _)).2;have b6:(i:Int)<j:=by omega
 have b9:(i:Int)<n:=by omega
 have ae:=IL (b:=b) (i:=i+1) (j:=j) (by omega);have a2:∀y∈pc b (i+1) j,0<=y/\y<256:=λy hy=>h.b y (WD hy);have a4:¬(192<=x/\decide (d=8)=true):=by omega
 have av:¬x<128:=by omega
 obtain⟨N,hN⟩:∃N,nOf x=N:=⟨_,rfl⟩;have ca:x-128=N:=by
  rw[<-hN];unfold nOf;rw[Ae (by omega)];omega
 have bn:N<=63:=by omega
 have HX:=Aa hx;have HC:=Aa hc;have E:=Aa h;have ab:=Aa ae;have U:=Aa a2;have X:=Aa a4;have s:=Aa hN;have T:=Aa ax
 skip
 clear hx hc h ae a2 a4 hN ax a8;go_enter func170,ntmps170
 go_upto_if 18 with fail
 have ba:=(Rb.new w).bel;refine gen_w (p:=λv=>Code.wp _ _ _ _ v) (q:=Rb w) (Rb.new w) ?_;clear ba;intro v R;replace af:=AS R.bel af;have x0:=R.x0;have x1:=R.x1;have x2:=R.x2;have xf:=R.xf;have HR:=Aa R;clear R;by_cases cb:N>58
 ·have a6:(N:Int)>58:=by omega
  have I:J= .bad 23:=by rw[T.out];exact Fh (JY X.out av (by rw[s.out];omega) (LX (by rw[s.out];omega)) (by decide))
  subst I;go_wp2_with fail;have m:=put3 HR.out.row (β false) (ε) (ε);refine Aq (Bf results170 _ _ w.heap.size _ _ _ rfl m) rfl ?_;exact⟨Ci HR.out.bel (Ab _) _ _ _,rfl,by decide⟩
 have a6:¬(N:Int)>58:=by omega
 go_upto_if 54 with fail
 go_cut [1,13] (λp q v'=>∃f L:Nat,p=ι (i+f:Nat)/\q=ι L/\Hd (decide (d=8)) x (pc b (i+1) j) f L/\v'=v)
 case first=>
  by_cases b7:N>55
  case neg=>
   have a5:¬(N:Int)>55:=(by omega);go_wp2_with fail
   go_meet
   case rel=>
    have:=WE (r:=pc b (i+1) j) X.out (by omega) (by rw[s.out];omega);rw[s.out]at this;exact⟨1,N,by simp,rfl,this,rfl⟩
  have a5:(N:Int)>55:=by omega
  obtain⟨K,hK⟩:∃K,N=55+K:=⟨N-55,by omega⟩;subst hK;have bx:K<=3:=by omega
  have b5:1<=K:=by omega
  have b2:((55+K:Nat):Int)-55=K:=by omega
  by_cases ak:j-(i+1)<K
  ·have al:(j:Int)-(i+1)<K:=(by omega);have I:J= .bad 22:=(by rw[T.out];exact Fh (JY X.out av (by rw[s.out];omega) (Kz (by rw[s.out];omega) (by rw[s.out,ab.out];omega)) (by decide)));subst I;go_wp2_with fail;have m:=put3 HR.out.row (β false) (ε) (ε);refine Aq (Bf results170 _ _ w.heap.size _ _ _ rfl m) rfl ?_;exact⟨Ci HR.out.bel (Ab _) _ _ _,rfl,by decide⟩
  have al:¬(j:Int)-(i+1)<K:=by omega
  go_wp2_with fail
  go_loopw [13,15] (λp q v'=>∃u:Nat,u<=K/\q=ι u/\p=ι (val ((pc b (i+1) j).take u):Nat)/\v'=v) (λ_ q _=>K-(intOf q).toNat)
  case atStart=>exact⟨0,by omega,rfl,rfl,rfl⟩
  case round=>
   obtain⟨u,hu,rfl,rfl,rfl⟩:=hrel;have ae:=ab.out;by_cases bu:u<K
   ·have bb:(u:Int)<K:=(by omega);have a0:=AS HR.out.bel (HC.out (i+1+u) (by omega));rw[<-QW (b:=b) (i:=i+1) (j:=j) (k:=u) (by omega) (by rw[E.out.l];omega)]at a0;obtain⟨v1,v2⟩:=DE U.out (j:=u) (by omega) (by omega);have v3:=DE U.out (j:=u+1) (by omega) (by omega);have aj:=Lk (b:=pc b (i+1) j) (j:=u) (by omega);have a3:=U.out ((pc b (i+1) j).getD u 0) (by rw[List.getD,Ad (by omega)];exact Bh _);obtain⟨q,hq⟩:∃q,val ((pc b (i+1) j).take u)=q:=⟨_,rfl⟩;obtain⟨z,O⟩:∃z,(pc b (i+1) j).getD u 0=z:=⟨_,rfl⟩;rw[hq]at v1 aj⊢;rw[O]at a0 a3 aj;obtain⟨aa,ad⟩:=a3;rw[aj]at v3;have cd:q<65536:=(by omega);have HV:Hid (((val ((pc b (i+1) j).take (u+1)):Nat):Int)=256*q+z):=Aa (by omega);have ar:(i:Int)+1+u<n:=(by omega);clear aj v1 v2 v3 hq O ae;go_wp2_with fail;exact⟨⟨u+1,by omega,by simp,by rw[HV.out],trivial⟩,by simp[intOf];omega⟩
   ·have bl:u=K:=(by omega);subst bl;have bb:¬(u:Int)<u:=(by omega);obtain⟨v1,v2⟩:=DE U.out (j:=u) (by omega) (by omega);have ap:=AS HR.out.bel (HC.out (i+1) (by omega));have Y:(pc b (i+1) j).headD 0=b.getD (i+1) 0:=(by rw[J5 (by omega) (by rw[E.out.l];omega)];rfl);have ad:=E.out.b (b.getD (i+1) 0) (by rw[List.getD,Ad (by rw[E.out.l];omega)];exact Bh _);have P:=λh=>Fh (g:=gg) (JY X.out (x:=x) (by omega) (by rw[s.out];omega) (LY (r:=pc b (i+1) j) (by rw[s.out];omega) (by rw[s.out,ab.out];omega) h) (show 23≠0 by decide));have Q:=S9 (x:=x) U.out X.out (by omega) (by rw[s.out];omega) (by rw[s.out];omega) (by rw[s.out,ab.out];omega);rw[<-T.out]at P;rw[s.out,show 55+u-55=u from by omega,Y]at P Q;obtain⟨q,hq⟩:∃q,val ((pc b (i+1) j).take u)=q:=⟨_,rfl⟩;obtain⟨z,O⟩:∃z,b.getD (i+1) 0=z:=⟨_,rfl⟩;rw[hq]at v1 P Q⊢;rw[O]at ap ad P Q;have bv:q<16777216:=(by omega);have ar:(i:Int)+1<n:=(by omega);have a1:=Aa P;have bg:=Aa Q;clear hq O Y ae v1 v2 P Q;by_cases aa:z=0
    ·have I:J= .bad 23:=a1.out (.inl aa);subst I aa;clear ad;go_wp2_with fail;have m:=put3 HR.out.row (β false) (ε) (ε);refine Aq (Bf results170 _ _ w.heap.size _ _ _ rfl m) rfl ?_;exact⟨Ci HR.out.bel (Ab _) _ _ _,rfl,by decide⟩
    ·have b4:(z==0)=false:=(by rw[Bo];exact aa);by_cases bo:q<56
     ·have I:J= .bad 23:=a1.out (.inr (by omega));have bk:(q:Int)<56:=(by omega);subst I;go_wp2_with fail;have m:=put3 HR.out.row (β false) (ε) (ε);refine Aq (Bf results170 _ _ w.heap.size _ _ _ rfl m) rfl ?_;exact⟨Ci HR.out.bel (Ab _) _ _ _,rfl,by decide⟩
     ·have bk:¬(q:Int)<56:=(by omega);have bi:=Aa (bg.out (by rintro(h|h);exact aa h;omega));go_wp2_with fail
      go_meet
      case rel=>exact⟨1+u,q,by simp;omega,rfl,bi.out,rfl⟩
 case rest=>
  obtain⟨f,L,rfl,rfl,H,rfl⟩:=hcut;have M:=H.eq;have cc:=H.f1;have b8:=H.f4;have bp:=H.L24;have ao:=H.iff;have a7:=H.fle;rw[ab.out]at M a7;have V:x::pc b (i+1) j=pc b i j:=by rw[J5 (b:=b) (i:=i) bf (by rw[E.out.l];omega),HX.out]
  clear H af;by_cases ak:(j-(i+1)+1)-f<L
  ·rw[Ai ak]at M;have I:J= .bad 22:=(by rw[T.out];exact Fh M);subst I;have al:(j:Int)-((i+f:Nat):Int)<L:=(by omega);clear M V;go_wp2_with fail;have m:=put3 HR.out.row (β false) (ε) (ε);refine Aq (Bf results170 _ _ w.heap.size _ _ _ rfl m) rfl ?_;exact⟨Ci HR.out.bel (Ab _) _ _ _,rfl,by decide⟩
  rw[Ae ak]at M;have al:¬(j:Int)-((i+f:Nat):Int)<L:=by omega
  have bw:i+f+L<=j:=by omega
  have D:=T.out;unfold rd1 at D;rw[M]at D;simp only at D;rw[V,WC (by omega)]at D;have Y:(pc b i j).headD 0=x:=by rw[<-V];rfl
  rw[Y]at D;have ah:=NN (E.out.at HR.out.bel) (f:=i+f) (t:=i+(f+L)) (by omega) (by omega);rw[show i+(f+L)-(i+f)=L from by omega]at ah;clear M Y ak;rw[Ai bh]at D;have ai:(pc b i j).getD 1 0=b.getD (i+1) 0∨¬(f=1/\f+L=2):=by
   by_cases C:f=1/\f+L=2
   ·exact .inl (QW (by omega) (by rw[E.out.l];omega))
   ·exact .inr C
  by_cases S:f=1/\f+L=2/\(pc b i j).getD 1 0<128
  ·rw[Ai S]at D;obtain⟨o1,o2,o3⟩:=S;have oL:L=1:=(by omega);rw[ai.resolve_right (λh=>h ⟨o1,o2⟩)]at o3;subst o1 oL D;have ap:=AS HR.out.bel (HC.out (i+1) (by omega));have ad:=(E.out.b (b.getD (i+1) 0) (by rw[List.getD,Ad (by rw[E.out.l];omega)];exact Bh _)).1;generalize b.getD (i+1) 0=z at*;have ar:((i+1:Nat):Int)<n:=(by omega);clear ah ai V ao;go_wp2_with fail;have m:=put3 HR.out.row (β false) (ε) (ε);refine Aq (Bf results170 _ _ w.heap.size _ _ _ rfl m) rfl ?_;exact⟨Ci HR.out.bel (Ab _) _ _ _,rfl,by decide⟩
  rw[Ae S]at D;have a9:=Aa D;have b0:((i+f:Nat):Int)<=((i+f:Nat):Int)+L:=by omega
  have bq:((i+f:Nat):Int)+L<=n:=by omega
  have bc:¬L=1∨(L=1/\f=1/\¬b.getD (i+1) 0<128):=by
   by_cases aq:L=1
   ·have hf:f=1:=ao.2 (by omega);refine .inr ⟨aq,hf,λh=>S ⟨hf,by omega,?_⟩⟩;rw[ai.resolve_right (λh=>h ⟨hf,by omega⟩)];exact h
   ·exact .inl aq
  have az:=QV _ L _ _ _ ah (by omega);have G:=Aa az;clear az;clear D S ai ah ao V;have ay:∀(a':Ω)(c':Nat)(F:Γ),Ag F a' L c' (pc b (i+f) (i+(f+L)))->(∀g off,a'=some ⟨g,off,none⟩->wc.heap.size<=g/\∀o,F.frozen? ⟨g,o,none⟩=false)->Λ wc F->FPost w i J (ω (θ #[γ #[β false,σ a' L c',ε],ι (((i+f:Nat):Int)+L),ι 0])) (((F.setCell ⟨w.heap.size,0,none⟩ (β false)).setCell ⟨w.heap.size,1,none⟩ (σ a' L c')).setCell ⟨w.heap.size,2,none⟩ (ε)):=by
   intro a' c' F C B A;rw[a9.out];have O:=HR.out.bel.size;have b1:=lt_of_get HR.out.row;refine⟨Ci (below_go HR.out.bel A) (Ab _) _ _ _,⟨false,a',L,c',none,0,0⟩,by simp;omega,?_⟩;refine liesP_eq.2 ⟨⟨rfl,NM C (λg off e _ _=>Dk (by have:=(B g off e).1;omega) _ _ _),rfl,Ab _,by show 0<=maxLen;unfold maxLen;omega,⟨by show L<=140737488351232;omega,by show 0<=140737488351232;omega⟩,λg off e _=>⟨Au O (B g off e).1,λo=>by rw[World.frozen?_setCell,World.frozen?_setCell,World.frozen?_setCell];exact(B g off e).2 o⟩⟩,Dp⟩
  have am:=Aa ay;clear ay;clear x0 x1 x2 xf;rcases bc with aq|⟨rfl,rfl,aw⟩
  ·have bz:((L:Int)==1)=false:=(by rw[Bo];omega);by_cases Z:c=i+f
   ·rw[Ai Z]at G;subst Z;rw[C8]at G;go_wp2_with fail;refine G.out.mono ?_;rintro e F⟨⟨a',c',rfl,C,B⟩,A⟩;have l:=HR.out.call A;have x0:=l.x0;have x1:=l.x1;have x2:=l.x2;have xf:=l.xf;have W:=Aa (am.out a' c' F C B A);have ac:=Aa l;clear l C B A G;go_wp2_with fail;have m:=put3 ac.out.row (β false) (σ a' L c') (ε);refine Aq (Bf results170 _ _ w.heap.size _ _ _ rfl m) rfl ?_;exact W.out
   ·rw[Ae Z]at G;go_wp2_with fail;refine G.out.mono ?_;rintro e F⟨⟨a',c',rfl,C,B⟩,A⟩;have l:=HR.out.call A;have x0:=l.x0;have x1:=l.x1;have x2:=l.x2;have xf:=l.xf;have W:=Aa (am.out a' c' F C B A);have ac:=Aa l;clear l C B A G;go_wp2_with fail;have m:=put3 ac.out.row (β false) (σ a' L c') (ε);refine Aq (Bf results170 _ _ w.heap.size _ _ _ rfl m) rfl ?_;exact W.out
  ·have ar:((i+1:Nat):Int)<n:=(by omega);have Z:¬c=i+1:=(by omega);have ap:=AS HR.out.bel (HC.out (i+1) (by omega));have ad:=(E.out.b (b.getD (i+1) 0) (by rw[List.getD,Ad (by rw[E.out.l];omega)];exact Bh _));generalize b.getD (i+1) 0=z at*;have aw:¬z<128:=aw
   ·rw[Ae Z]at G;go_wp2_with fail;refine G.out.mono ?_;rintro e F⟨⟨a',c',rfl,C,B⟩,A⟩;have l:=HR.out.call A;have x0:=l.x0;have x1:=l.x1;have x2:=l.x2;have xf:=l.xf;have W:=Aa (am.out a' c' F C B A);have ac:=Aa l;clear l C B A G;go_wp2_with fail;have m:=put3 ac.out.row (β false) (σ a' 1 c') (ε);refine Aq (Bf results170 _ _ w.heap.size _ _ _ rfl m) rfl ?_;exact W.out
set_option maxRecDepth 20000 in
theorem PE(V:τ->R)(a:Ω)(n c i j d:Nat)(w:Γ)(b:τ)(h:Ag w a n c b)(hn:n<=140737488351232)(a9:i<j)(hj:j<=n)(hd:d<=8)(x:Int)(hx:b.getD i 0=x)(bw:192<=x)(b5:d<8)
 (ah:∀(a:Ω)(n c:Nat)(b:τ)(w:Γ),Ag w a n c b->n<=140737488351232->∀i j:Nat,i<=j->j<=n->j-i<16777216->Calls prog 174 #[σ a n c,ι i,ι j,ι (d+1:Nat)] w (GPost w j (rdAll V (pc b i j).length (pc b i j))))
 (am:∀b t m,V b= .ok t m->1<=m/\m<=b.length) (D:R)
 (aj:D=rd1 V (decide (d=8)) (x::pc b (i+1) j)):
 Calls prog 170 #[σ a n c,ι i,ι j,ι d] w (FPost w i D):=by
 obtain⟨g,off,rfl,b9,bf,hc⟩:=ag_head h (by omega);unfold maxLen at bf;have X:=hc i (by omega);rw[hx]at X;have a3:=h.l;have bj:=(h.b x (by rw[<-hx,List.getD,Ad (by omega)];exact Bh _)).2;have aq:(i:Int)<j:=by omega
 have b3:(i:Int)<n:=by omega
 have T:=IL (b:=b) (i:=i+1) (j:=j) (by omega);have ar:∀y∈pc b (i+1) j,0<=y/\y<256:=λy hy=>h.b y (WD hy);have ay:¬(192<=x/\decide (d=8)=true):=by simp;omega
 have ai:¬x<128:=by omega
 obtain⟨N,hN⟩:∃N,nOf x=N:=⟨_,rfl⟩;have b4:x-192=N:=by
  rw[<-hN];unfold nOf;rw[Ai (by omega)];omega
 have bk:N<=63:=by omega
 have HX:=Aa hx;have HC:=Aa hc;have A:=Aa h;have S:=Aa T;have M:=Aa ar;have O:=Aa ay;have s:=Aa hN;have J:=Aa aj;have av:=Aa ah;have bc:=Aa am;clear ah am;clear hx hc h T ar ay hN aj a3;go_enter func170,ntmps170
 go_upto_if 18 with fail
 have a7:=(Rb.new w).bel;refine gen_w (p:=λv=>Code.wp _ _ _ _ v) (q:=Rb w) (Rb.new w) ?_;clear a7;intro v R;replace X:=AS R.bel X;have x0:=R.x0;have x1:=R.x1;have x2:=R.x2;have xf:=R.xf;have HR:=Aa R;clear R;by_cases b6:N>58
 ·have a1:(N:Int)>58:=by omega
  have o:D= .bad 23:=by rw[J.out];exact Fh (JY O.out ai (by rw[s.out];omega) (LX (by rw[s.out];omega)) (by decide))
  subst o;go_wp2_with fail;have l:=put3 HR.out.row (β false) (ε) (ε);refine Aq (Bf results170 _ _ w.heap.size _ _ _ rfl l) rfl ?_;exact⟨Ci HR.out.bel (Ab _) _ _ _,rfl,by decide⟩
 have a1:¬(N:Int)>58:=by omega
 go_upto_if 54 with fail
 go_cut [1,13] (λp q v'=>∃f L:Nat,p=ι (i+f:Nat)/\q=ι L/\Hd (decide (d=8)) x (pc b (i+1) j) f L/\v'=v)
 case first=>
  by_cases b1:N>55
  case neg=>
   have az:¬(N:Int)>55:=(by omega);go_wp2_with fail
   go_meet
   case rel=>
    have:=WE (r:=pc b (i+1) j) O.out (by omega) (by rw[s.out];omega);rw[s.out]at this;exact⟨1,N,by simp,rfl,this,rfl⟩
  have az:(N:Int)>55:=by omega
  obtain⟨K,hK⟩:∃K,N=55+K:=⟨N-55,by omega⟩;subst hK;have bq:K<=3:=by omega
  have bz:1<=K:=by omega
  have bv:((55+K:Nat):Int)-55=K:=by omega
  by_cases ab:j-(i+1)<K
  ·have ac:(j:Int)-(i+1)<K:=(by omega);have o:D= .bad 22:=(by rw[J.out];exact Fh (JY O.out ai (by rw[s.out];omega) (Kz (by rw[s.out];omega) (by rw[s.out,S.out];omega)) (by decide)));subst o;go_wp2_with fail;have l:=put3 HR.out.row (β false) (ε) (ε);refine Aq (Bf results170 _ _ w.heap.size _ _ _ rfl l) rfl ?_;exact⟨Ci HR.out.bel (Ab _) _ _ _,rfl,by decide⟩
  have ac:¬(j:Int)-(i+1)<K:=by omega
  go_wp2_with fail
  go_loopw [13,15] (λp q v'=>∃u:Nat,u<=K/\q=ι u/\p=ι (val ((pc b (i+1) j).take u):Nat)/\v'=v) (λ_ q _=>K-(intOf q).toNat)
  case atStart=>exact⟨0,by omega,rfl,rfl,rfl⟩
  case round=>
   obtain⟨u,hu,rfl,rfl,rfl⟩:=hrel;have T:=S.out;by_cases bn:u<K
   ·have a8:(u:Int)<K:=(by omega);have ao:=AS HR.out.bel (HC.out (i+1+u) (by omega));rw[<-QW (b:=b) (i:=i+1) (j:=j) (k:=u) (by omega) (by rw[A.out.l];omega)]at ao;obtain⟨U,v2⟩:=DE M.out (j:=u) (by omega) (by omega);have v3:=DE M.out (j:=u+1) (by omega) (by omega);have Z:=Lk (b:=pc b (i+1) j) (j:=u) (by omega);have ax:=M.out ((pc b (i+1) j).getD u 0) (by rw[List.getD,Ad (by omega)];exact Bh _);obtain⟨q,W⟩:∃q,val ((pc b (i+1) j).take u)=q:=⟨_,rfl⟩;obtain⟨z,G⟩:∃z,(pc b (i+1) j).getD u 0=z:=⟨_,rfl⟩;rw[W]at U Z⊢;rw[G]at ao ax Z;obtain⟨Q,af⟩:=ax;rw[Z]at v3;have b8:q<65536:=(by omega);have HV:Hid (((val ((pc b (i+1) j).take (u+1)):Nat):Int)=256*q+z):=Aa (by omega);have bi:(i:Int)+1+u<n:=(by omega);clear Z U v2 v3 W G T;go_wp2_with fail;exact⟨⟨u+1,by omega,by simp,by rw[HV.out],trivial⟩,by simp[intOf];omega⟩
   ·have bh:u=K:=(by omega);subst bh;have a8:¬(u:Int)<u:=(by omega);obtain⟨U,v2⟩:=DE M.out (j:=u) (by omega) (by omega);have a4:=AS HR.out.bel (HC.out (i+1) (by omega));have P:(pc b (i+1) j).headD 0=b.getD (i+1) 0:=(by rw[J5 (by omega) (by rw[A.out.l];omega)];rfl);have af:=A.out.b (b.getD (i+1) 0) (by rw[List.getD,Ad (by rw[A.out.l];omega)];exact Bh _);have E:=λh=>Fh (g:=V) (JY O.out (x:=x) (by omega) (by rw[s.out];omega) (LY (r:=pc b (i+1) j) (by rw[s.out];omega) (by rw[s.out,S.out];omega) h) (show 23≠0 by decide));have I:=S9 (x:=x) M.out O.out (by omega) (by rw[s.out];omega) (by rw[s.out];omega) (by rw[s.out,S.out];omega);rw[<-J.out]at E;rw[s.out,show 55+u-55=u from by omega,P]at E I;obtain⟨q,W⟩:∃q,val ((pc b (i+1) j).take u)=q:=⟨_,rfl⟩;obtain⟨z,G⟩:∃z,b.getD (i+1) 0=z:=⟨_,rfl⟩;rw[W]at U E I⊢;rw[G]at a4 af E I;have bo:q<16777216:=(by omega);have bi:(i:Int)+1<n:=(by omega);have ap:=Aa E;have ba:=Aa I;clear W G P T U v2 E I;by_cases Q:z=0
    ·have o:D= .bad 23:=ap.out (.inl Q);subst o Q;clear af;go_wp2_with fail;have l:=put3 HR.out.row (β false) (ε) (ε);refine Aq (Bf results170 _ _ w.heap.size _ _ _ rfl l) rfl ?_;exact⟨Ci HR.out.bel (Ab _) _ _ _,rfl,by decide⟩
    ·have bx:(z==0)=false:=(by rw[Bo];exact Q);by_cases bl:q<56
     ·have o:D= .bad 23:=ap.out (.inr (by omega));have bg:(q:Int)<56:=(by omega);subst o;go_wp2_with fail;have l:=put3 HR.out.row (β false) (ε) (ε);refine Aq (Bf results170 _ _ w.heap.size _ _ _ rfl l) rfl ?_;exact⟨Ci HR.out.bel (Ab _) _ _ _,rfl,by decide⟩
     ·have bg:¬(q:Int)<56:=(by omega);have bb:=Aa (ba.out (by rintro(h|h);exact Q h;omega));go_wp2_with fail
      go_meet
      case rel=>exact⟨1+u,q,by simp;omega,rfl,bb.out,rfl⟩
 case rest=>
  obtain⟨f,L,rfl,rfl,H,rfl⟩:=hcut;have C:=H.eq;have b7:=H.f1;have b2:=H.f4;have bm:=H.L24;have a0:=H.iff;have a2:=H.fle;rw[S.out]at C a2;have Y:x::pc b (i+1) j=pc b i j:=by rw[J5 (b:=b) (i:=i) a9 (by rw[A.out.l];omega),HX.out]
  clear H X;by_cases ab:(j-(i+1)+1)-f<L
  ·rw[Ai ab]at C;have o:D= .bad 22:=(by rw[J.out];exact Fh C);subst o;have ac:(j:Int)-((i+f:Nat):Int)<L:=(by omega);clear C Y;go_wp2_with fail;have l:=put3 HR.out.row (β false) (ε) (ε);refine Aq (Bf results170 _ _ w.heap.size _ _ _ rfl l) rfl ?_;exact⟨Ci HR.out.bel (Ab _) _ _ _,rfl,by decide⟩
  rw[Ae ab]at C;have ac:¬(j:Int)-((i+f:Nat):Int)<L:=by omega
  have bp:i+f+L<=j:=by omega
  have B:=J.out;unfold rd1 at B;rw[C]at B;simp only at B;rw[Y,WC (by omega)]at B;have P:(pc b i j).headD 0=x:=by rw[<-Y];rfl
  rw[P]at B;have ak:=NN (A.out.at HR.out.bel) (f:=i+f) (t:=i+(f+L)) (by omega) (by omega);rw[show i+(f+L)-(i+f)=L from by omega]at ak;clear C P ab;rw[Ae (by omega)]at B;have ae:=av.out _ n c b wc (A.out.at HR.out.bel) hn (i+f) (i+(f+L)) (by omega) (by omega) (by omega);rw[show((i+(f+L):Nat):Int)=((i+f:Nat):Int)+L from by omega,show((d+1:Nat):Int)=(d:Int)+1 from by omega]at ae;have ad:=λts h=>Ig bc.out (pc b (i+f) (i+(f+L))).length (pc b (i+f) (i+(f+L))) ts h;rw[IL (by rw[A.out.l];omega)]at ad;have a5:=Aa ad;have aw:=Aa ae;have al:=Aa B;clear ae B ak a0 Y av ad x0 x1 x2 xf;go_wp2_with fail;refine aw.out.mono ?_;rintro e w2⟨h3,hm⟩;have F:=HR.out.call h3;have x0:=F.x0;have x1:=F.x1;have x2:=F.x2;have xf:=F.xf;have aa:=Aa F;have H3:=Aa h3;have G:=HR.out.bel.size;have bu:=lt_of_get HR.out.row;clear F h3 aw;cases l:rdAll V (pc b (i+f) (i+(f+L))).length (pc b (i+f) (i+(f+L)))with
  |bad er=>
   rw[l]at hm;obtain⟨rfl,a6⟩:=hm;have o:=al.out;rw[l]at o;simp only at o;subst o;clear l;go_wp2_with fail;have l:=put3 aa.out.row (β false) (ε) (ε);refine Aq (Bf results170 _ _ w.heap.size _ _ _ rfl l) rfl ?_;exact⟨Ci aa.out.bel (Ab _) _ _ _,rfl,a6⟩
  |ok ts=>
   rw[l]at hm;obtain⟨ia,ic,rfl,q1,q2,q3⟩:=hm;have o:=al.out;rw[l]at o;simp only at o;subst o;have b0:=a5.out ts (by rw[IL (by rw[A.out.l];omega)]at l;exact l);have HQ:=Aa q3;clear l q3;go_wp2_with fail;have l:=put3 aa.out.row (β true) (ε) (σ ia ts.length ic);refine Aq (Bf results170 _ _ w.heap.size _ _ _ rfl l) rfl ?_;refine⟨Ci aa.out.bel (Ab _) _ _ _,⟨true,none,0,0,ia,ts.length,ic⟩,by simp,?_⟩;refine IB q1 q2 (by omega) (DN (λb(hb:wc.heap.size<=b) aq=>⟨Dk (by omega) _ _ _,by omega⟩) (λu _=>BD (λb(hb:wc.heap.size<=b) aq=>⟨Dk (by omega) _ _ _,by omega⟩) u) HQ.out)
end
end Go.Proofs.YtkdlocloepbmcaaGreat
