/- What the survey's body answers of a text. -/
import Derived.Test.YtkdlocloepbmcaaGreatG03
import Derived.Laws.OwnMore
set_option linter.unusedVariables false
set_option linter.unusedSimpArgs false
set_option maxHeartbeats 2000000
open Go.Proofs.Tryz Go.RowKit
namespace Go.Proofs.YtkdlocloepbmcaaGreat
section
variable {g j n : Nat} {w : World} {u : T}
theorem Tq(bs:τ)(its:List T)(x:V)(d W g:Nat)(w0 w:Γ)(D:Lies w0 (.mk false bs its) x)(ab:Λ w0 w)(hg:w0.heap.size<=g)(c:w.heap[g]?=some (.cells #[ι W] 185))(hW:W<=16777215)(hd:d<=8)
 (Z:¬(false=true/\d=8)) (j:wrongForm false bs its=false) (A:W+wt false bs d<=16777215):
 Calls prog 116 #[π g,γ #[β x.l,σ x.ba x.bn x.bc,σ x.ia x.m x.ic],ι d] w (BodyPost (.mk false bs its) d W g w):=by
 obtain⟨l',s,b,t,u,m,k⟩:=x;obtain⟨F,r,f,S,G,⟨U,X⟩,y⟩:=lies_eq.1 D;simp only at F r f S G y U X⊢;subst F;have N:=lt_of_get c;have C:b<=maxLen:=by unfold maxLen;omega
 have af:k<=2^63-1:=G;have hm:m<=2^63-1:=by omega
 have aa:b<=2^63-1:=C;have c0:∀o,(w.alloc o).cell? ⟨g,0,none⟩=some (ι W):=cell_alloc (by rw[Aj _ _ _ _ _ _ c];rfl);have P:∀o,(w.alloc o).frozen? ⟨g,0,none⟩=false:=λo=>AN _ _ _ _ _ ((Ax w o _ N).trans c);have H:=Aa r.l;have R:=Aa f;have O:=Aa y;have K:=Aa c;obtain⟨a,h⟩:∃a,wt false bs d=a:=⟨_,rfl⟩;have M:=Aa h;rw[h]at A;have J:W+a<=150000000000000:=by omega
 have ad:¬(16777215:Int)<((W+a:Nat):Int):=by omega
 have ae:W+a<=16777215:=A;have B:wk (T.mk false bs its) d W=wks its (d+1) (W+a):=by
  rw[IX,Ae (by simp),Ae (by rw[j];decide),h,Ae (by omega)]
 have Q:=Aa B;have L:m=0:=by rw[f];simp[wrongForm]at j;rw[j];rfl
 subst L;have I:its=[]:=Aw f.symm;subst I;clear B h j f y c D r R O;go_enter func116,ntmps116;go_wp2_with fail
 go_cut [] (λv=>Touch g w v/\v.heap[g]?=some (.cells #[ι (W+a:Nat)] 185)/\v.heap[w.heap.size]?=some (.cells #[β false,σ s b t,σ u 0 k] 108))
 case first=>
  go_region_with (first|(go_at_call 151;refine(Fv false s _ t u 0 k bs d _ H.out C).mono ?_;rintro e w1⟨rfl,n⟩;have cg:=(n.cell (p:=⟨g,0,none⟩) (Al (c0 _))).trans (c0 _);have fg:=(n.frozen (p:=⟨g,0,none⟩) (Al (c0 _))).trans (P _)))
  all_goals
   go_wp2_with fail
   go_meet
   case rel=>exact Jb K.out M.out J n
 case rest=>
  obtain⟨E,z,l⟩:=hcut;have ai:wc.cell? ⟨g,0,none⟩=some (ι (W+a:Nat)):=by rw[Aj _ _ _ _ _ _ z];rfl
  have aj:wc.cell? ⟨w.heap.size,0,none⟩=some (β false):=by rw[Aj _ _ _ _ _ _ l];rfl
  have ah:wc.cell? ⟨w.heap.size,1,none⟩=some (σ s b t):=by rw[Aj _ _ _ _ _ _ l];rfl
  have ac:wc.cell? ⟨w.heap.size,2,none⟩=some (σ u 0 k):=by rw[Aj _ _ _ _ _ _ l];rfl
  have Y:=Aa E;have HC:=Aa z;clear E z l;go_wp2_with fail
  go_loopw [8,59] (λq i v=>q=ι b/\i=ι 0/\v=wc) (λ_ i _=>0)
  case atStart=>exact⟨rfl,rfl,rfl⟩
  case round=>
   obtain⟨rfl,rfl,rfl⟩:=hrel;go_wp2_with fail;go_ret2;refine⟨Y.out, .inl ?_⟩;rw[Q.out,Er];refine⟨rfl,?_,HC.out⟩;rw[show szb (T.mk false bs [])=b from by show bs.length+szs []=b;rw[Fu,H.out];rfl];rfl
theorem Tt(bs:τ)(its:List T)(x:V)(d W g:Nat)(w0 w:Γ)(ao:Lies w0 (.mk true bs its) x)(H:Λ w0 w)(hg:w0.heap.size<=g)(s:w.heap[g]?=some (.cells #[ι W] 185))(hW:W<=16777215)(hd:d<=8)
 (G:¬(true=true/\d=8)) (K:wrongForm true bs its=false) (aa:W+wt true bs d<=16777215)
 (ih:∀t∈its,∀(x:V)(d W g:Nat)(w0 w:Γ),Lies w0 t x->Λ w0 w->w0.heap.size<=g->w.heap[g]?=some (.cells #[ι W] 185)->W<=16777215->d<=8->Calls prog 116 #[π g,γ #[β x.l,σ x.ba x.bn x.bc,σ x.ia x.m x.ic],ι d] w (BodyPost t d W g w)):
 Calls prog 116 #[π g,γ #[β x.l,σ x.ba x.bn x.bc,σ x.ia x.m x.ic],ι d] w (BodyPost (.mk true bs its) d W g w):=by
 obtain⟨l',ba,bn,bc,ia,m,N⟩:=x;obtain⟨h1,O,h3,h4,h5,⟨h7,h8⟩,h6⟩:=lies_eq.1 ao;simp only at h1 O h3 h4 h5 h6 h7 h8⊢;subst h1;have a5:=lt_of_get s;have av:bn<=maxLen:=by unfold maxLen;omega
 have b5:N<=2^63-1:=h5;have hm:m<=2^63-1:=by omega
 have bx:bn<=2^63-1:=av;have c0:∀o,(w.alloc o).cell? ⟨g,0,none⟩=some (ι W):=cell_alloc (by rw[Aj _ _ _ _ _ _ s];rfl);have f0:∀o,(w.alloc o).frozen? ⟨g,0,none⟩=false:=λo=>AN _ _ _ _ _ ((Ax w o _ a5).trans s);have HL:=Aa O.l;have H3:=Aa h3;have H6:=Aa h6;have a9:=Aa s;obtain⟨a,I⟩:∃a,wt true bs d=a:=⟨_,rfl⟩;have bk:=Aa I;rw[I]at aa;have aw:W+a<=150000000000000:=by omega
 have ca:¬(16777215:Int)<((W+a:Nat):Int):=by omega
 have bj:W+a<=16777215:=aa;have ac:wk (T.mk true bs its) d W=wks its (d+1) (W+a):=by
  rw[IX,Ae (by simp at G⊢;omega),Ae (by rw[K];decide),I,Ae (by omega)]
 have HF:=Aa ac;have bh:bn=0:=by rw[<-O.l];simp[wrongForm]at K;rw[K];rfl
 subst bh;have b6:((d:Int)==8)=false:=by simp;simp at G;omega
 have bq:d+1<=8:=by simp at G;omega
 have HI:=Aa ih;clear ac I K h3 h6 s ao O ih G;go_enter func116,ntmps116;go_wp2_with fail
 go_cut [] (λv=>Touch g w v/\v.heap[g]?=some (.cells #[ι (W+a:Nat)] 185)/\v.heap[w.heap.size]?=some (.cells #[β true,σ ba 0 bc,σ ia m N] 108))
 case first=>
  go_region_with (first|(go_at_call 151;refine(Fv true ba _ bc ia m N bs d _ HL.out av).mono ?_;rintro e w1⟨rfl,C⟩;have cg:=(C.cell (p:=⟨g,0,none⟩) (Al (c0 _))).trans (c0 _);have fg:=(C.frozen (p:=⟨g,0,none⟩) (Al (c0 _))).trans (f0 _)))
  all_goals
   go_wp2_with fail
   go_meet
   case rel=>exact Jb a9.out bk.out aw C
 case rest=>
  obtain⟨l,f,M⟩:=hcut;have b0:wc.cell? ⟨g,0,none⟩=some (ι (W+a:Nat)):=by rw[Aj _ _ _ _ _ _ f];rfl
  have b3:wc.cell? ⟨w.heap.size,0,none⟩=some (β true):=by rw[Aj _ _ _ _ _ _ M];rfl
  have cc:wc.cell? ⟨w.heap.size,1,none⟩=some (σ ba 0 bc):=by rw[Aj _ _ _ _ _ _ M];rfl
  have bz:wc.cell? ⟨w.heap.size,2,none⟩=some (σ ia m N):=by rw[Aj _ _ _ _ _ _ M];rfl
  have HT:=Aa l;have HC:=Aa f;clear l f M;go_wp2_with fail
  go_loopw [8,59] (λq i v=>∃k r:Nat,k<=m/\i=ι k/\q=ι (szs (its.take k):Nat)/\wks (its.take k) (d+1) (W+a)=(r,0)/\Touch g w v/\v.heap[g]?=some (.cells #[ι r] 185)) (λ_ i _=>m-(intOf i).toNat)
  case atStart=>exact⟨0,W+a,by omega,rfl,by rw[BM,Fu];rfl,by rw[BM,Er],HT.out,HC.out⟩
  case round=>
   obtain⟨k,r,hk,rfl,rfl,Y,l,f⟩:=hrel;have R:=Aa Y;obtain⟨b8,al,bl⟩:=JL (Nat.succ_pos _) bj Y;generalize hq:szs (its.take k)=q at bl;have HQ:=Aa hq;clear Y hq;by_cases b4:k<m
   ·have Z:k<its.length:=(by have:=H3.out;omega);obtain⟨gi,off,y,ar⟩:=Eb H6.out k its[k] (Ad Z);rw[A6]at ar;have E:Λ w0 wr:=Touch.below H l hg (by have:=H.size;omega);obtain⟨rfl,a0,a1,a2,B⟩:=ar;have a8:=(E.cell (p:=⟨gi,off+k*3,none⟩) (Al a0)).trans a0;have bo:=(E.cell (p:=⟨gi,off+k*3+1,none⟩) (Al a1)).trans a1;have bb:=(E.cell (p:=⟨gi,off+k*3+2,none⟩) (Al a2)).trans a2;clear a0 a1 a2;have cb:=cell_alloc a8;have b2:=cell_alloc bo;have b7:=cell_alloc bb;have a6:(k:Int)<m:=(by omega);obtain⟨u,P⟩:∃u,its[k]=u:=⟨_,rfl⟩;have am:its[k]?=some u:=(by rw[<-P];exact Ad Z);have S:=Aa am;have bm:=Aa (HI.out u (by rw[<-P];exact Bh Z) y (d+1) r g w0);rw[P]at B;have az:=Aa B;have bv:=lt_of_get f;have HB:=Aa E;have a4:=Aa l;have bi:=Aa f;obtain⟨b,c,n⟩:=u;have y1:=(lies_eq.1 B).1;have y2:=(lies_eq.1 B).2.1;have bp:Hid (y.l=b):=y1;have AG:=Aa y2;clear am P B y1 y2 E l f;go_wp2_with fail;rw[show((d:Int)+1)=((d+1:Nat):Int)from by omega];have ae:=bm.out (wr.alloc (.cells #[β y.l,σ y.ba y.bn y.bc,σ y.ia y.m y.ic] 108)) az.out (HB.out.alloc HB.out.size _) hg ((Ax _ _ _ bv).trans bi.out) al bq;refine ae.mono ?_;clear ae;rintro e w1⟨L,ax⟩;have j:Touch g w w1:=(a4.out.trans (Touch.of_below ((Ac _ _).alloc (Ab _) _))).trans L;have C:Λ w0 w1:=Touch.below H j hg (by have:=H.size;omega);have A:w1.heap[wr.heap.size]?=some (.cells #[β y.l,σ y.ba y.bn y.bc,σ y.ia y.m y.ic] 108):=(L.block _ (by simp) (by omega)).trans (Ak _ _);rcases ax with⟨h,rfl,af⟩|⟨h,rfl⟩
    ·have y0:w1.cell? ⟨wr.heap.size,0,none⟩=some (β y.l):=(by rw[Aj _ _ _ _ _ _ A];rfl);have y1:w1.cell? ⟨wr.heap.size,1,none⟩=some (σ y.ba y.bn y.bc):=(by rw[Aj _ _ _ _ _ _ A];rfl);have y2:w1.cell? ⟨wr.heap.size,2,none⟩=some (σ y.ia y.m y.ic):=(by rw[Aj _ _ _ _ _ _ A];rfl);obtain⟨z1,z2,z3⟩:=Lj (Nat.succ_pos _) al h;have HM:=Aa (Lh S.out R.out h);have ah:sz (T.mk b c n)=szOf b c (szb (T.mk b c n)):=V3 _;have aq:=KE b c (szb (T.mk b c n));have z:=Aa (V1 S.out);rw[ah]at z3 z;rw[HQ.out]at z;have ai:=Aa af;obtain⟨U,ad⟩:∃U,(wk (T.mk b c n) (d+1) r).1=U:=⟨_,rfl⟩;obtain⟨F,ab⟩:∃F,szb (T.mk b c n)=F:=⟨_,rfl⟩;rw[ad]at z1 z2 z3 HM ai;rw[ab]at z3 aq z⊢;clear ad ab;have bw:F<1000000000:=(by omega);have D:=Aa j;clear h ah af A L j;go_wp2_with fail;refine(Ln y.l y.ba y.bn y.bc y.ia y.m y.ic c F _ (AG.out.at C) bw).mono ?_;rintro e w2⟨rfl,aj⟩;rw[bp.out];obtain⟨zz,ap⟩:∃zz,szOf b c F=zz:=⟨_,rfl⟩;rw[ap]at z3 aq z⊢;clear ap;have b1:q+zz<9000000000:=(by omega);go_wp2_with fail;refine⟨⟨k+1,U,by omega,by simp,?_,HM.out,D.out.trans (Touch.of_below aj),Below.row aj ai.out⟩,?_⟩
     ·rw[z.out];simp
     ·simp[intOf];omega
    ·have bg:=Aa (Li S.out R.out h);have ay:=Aa h;obtain⟨er,J⟩:∃er,(wk (T.mk b c n) (d+1) r).2=er:=⟨_,rfl⟩;have b9:((er:Int) !=0)=true:=(by rw[BU];rw[J]at h;omega);have ak:=Aa J;have D:=Aa j;rw[J];clear h A L j J;go_wp2_with fail;go_ret2;refine⟨D.out, .inr ?_⟩;rw[HF.out,bg.out,ak.out];exact⟨by rw[<-ak.out];exact ay.out,rfl⟩
   ·have a7:k=m:=(by omega);subst a7;have a6:¬(k:Int)<k:=(by omega);have j:its.take k=its:=A9 (by have:=H3.out;omega);have Q:=R.out;have X:=HQ.out;rw[j]at Q X;have a3:=Aa Q;have bu:=Aa X;have D:=Aa l;have bf:=Aa f;clear j Q X l f;go_wp2_with fail;go_ret2;refine⟨D.out, .inl ?_⟩;rw[HF.out,a3.out];refine⟨rfl,?_,bf.out⟩;rw[show szb (T.mk true bs its)=q from by show bs.length+szs its=q;rw[bu.out,HL.out];exact A6 _];rfl
theorem V9:∀t,∀(x:V)(d W g:Nat)(w0 w:Γ),Lies w0 t x->Λ w0 w->w0.heap.size<=g->w.heap[g]?=some (.cells #[ι W] 185)->W<=16777215->d<=8->
 Calls prog 116 #[π g,γ #[β x.l,σ x.ba x.bn x.bc,σ x.ia x.m x.ic],ι d] w (BodyPost t d W g w):=by
 refine T.ind λl bs its n x d W g w0 w e c i b f hd=>?_;by_cases a:(l=true/\d=8)∨wrongForm l bs its=true∨16777215<W+wt l bs d
 ·exact V8 l bs its x d W g w0 w e c i b f hd a
 ·have j:¬(l=true/\d=8):=λh=>a (.inl h);have m:wrongForm l bs its=false:=by
   cases h:wrongForm l bs its with
   |false=>rfl
   |true=>exact absurd (.inr (.inl h)) a
  have k:W+wt l bs d<=16777215:=Nat.le_of_not_lt λh=>a (.inr (.inr h));cases l with
  |false=>exact Tq bs its x d W g w0 w e c i b f hd j m k
  |true=>exact Tt bs its x d W g w0 w e c i b f hd j m k n
theorem Tv{t:T}{d w:Nat}(f:w<=16777215)(h:(wk t d w).2=0):szb t<1000000000:=by
 obtain⟨l,bs,its⟩:=t;obtain⟨_,b,e,c⟩:=OK h;rw[c]at h;obtain⟨g,i,j⟩:=JL (its:=its) (d:=d+1) (w:=w+wt l bs d) (W:=(wks its (d+1) (w+wt l bs d)).1) (by omega) e (by rw[<-h]);show bs.length+szs its<_;have a:=EM b;cases l with
 |true=>
  have:bs=[]:=by simpa using a
  subst this;simp;omega
 |false=>
  have:bs.length<=wt false bs d:=by simp[wt];omega
  omega
def mP(t:T):Nat×Nat:=if(wk t 0 0).2≠0 then(0,(wk t 0 0).2)else if 16777215<szb t then(0,20)else(sz t,0)
theorem Kg(t:T)(x:V)(w:Γ)(z:Lies w t x):
 Calls prog 83 #[γ #[β x.l,σ x.ba x.bn x.bc,σ x.ia x.m x.ic]] w λe w'=>e=ω (θ #[ι ((mP t).1:Nat),ι ((mP t).2:Nat)])/\Λ w w':=by
 have k:=Aa z;obtain⟨A,m⟩:∃A,mP t=A:=⟨_,rfl⟩;rw[m];have i:=Aa m;clear z m;go_enter func83,ntmps83;go_wp2_with fail
 have j:=V9 t x 0 0 (w.heap.size+1) w ((w.alloc (.cells #[β x.l,σ x.ba x.bn x.bc,σ x.ia x.m x.ic] 108)).alloc (.cells #[ι 0] 185)) k.out (((Ac _ _).alloc (Ab _) _).alloc (by simp) _) (by omega)
  (by have:=Ak (w.alloc (.cells #[β x.l,σ x.ba x.bn x.bc,σ x.ia x.m x.ic] 108)) (.cells #[ι 0] 185);rw[show(w.alloc (.cells #[β x.l,σ x.ba x.bn x.bc,σ x.ia x.m x.ic] 108)).heap.size=w.heap.size+1 from by simp]at this;exact this) (by omega) (by omega)
 rw[show((0:Nat):Int)=0 from rfl]at j;refine j.mono ?_;clear j;rintro e w1⟨o,C⟩;have n:((w.alloc (.cells #[β x.l,σ x.ba x.bn x.bc,σ x.ia x.m x.ic] 108)).alloc (.cells #[ι 0] 185)).heap.size=w.heap.size+1+1:=by simp
 have f:w1.heap[w.heap.size]?=some (.cells #[β x.l,σ x.ba x.bn x.bc,σ x.ia x.m x.ic] 108):=(o.block _ (by rw[n];omega) (by omega)).trans ((Ax _ _ _ (by simp)).trans (Ak _ _));have v:Λ w ((w.alloc (.cells #[β x.l,σ x.ba x.bn x.bc,σ x.ia x.m x.ic] 108)).alloc (.cells #[ι 0] 185)):=((Ac _ _).alloc (Ab _) _).alloc (by simp) _;have h:Λ w w1:=Touch.below v o (by omega) (by rw[n];omega);clear o n v;obtain⟨q,r,B⟩:=t;have E:Hid (x.l=q):=(lies_eq.1 k.out).1;have H:=Aa ((lies_eq.1 k.out).2.1.at h);have a:=i.out;unfold mP at a;rcases C with⟨b,rfl,D⟩|⟨b,rfl⟩
 ·have K:w1.cell? ⟨w.heap.size,0,none⟩=some (β x.l):=by rw[Aj _ _ _ _ _ _ f];rfl
  have J:w1.cell? ⟨w.heap.size,1,none⟩=some (σ x.ba x.bn x.bc):=by rw[Aj _ _ _ _ _ _ f];rfl
  have M:w1.cell? ⟨w.heap.size,2,none⟩=some (σ x.ia x.m x.ic):=by rw[Aj _ _ _ _ _ _ f];rfl
  rw[Ae (by rw[b];simp)]at a;have y:=Tv (A8 _) b;rw[V3]at a;obtain⟨c,u⟩:∃c,szb (T.mk q r B)=c:=⟨_,rfl⟩;rw[u]at y a⊢;have g:=Aa h;clear b D f u h;by_cases s:16777215<c
  ·rw[Ai s]at a;have F:(16777215:Int)<c:=(by omega);have d:=Aa a;clear a i;go_wp2_with fail;go_ret2;refine⟨?_,g.out⟩;rw[<-d.out];rfl
  ·rw[Ae s]at a;have F:¬(16777215:Int)<c:=(by omega);have d:=Aa a;clear a i;go_wp2_with fail;refine(Ln x.l x.ba x.bn x.bc x.ia x.m x.ic r c _ H.out y).mono ?_;rintro e L⟨rfl,G⟩;rw[E.out];go_wp2_with fail;go_ret2;refine⟨?_,g.out.trans (G.mono g.out.size)⟩;rw[<-d.out];rfl
 ·rw[Ai b]at a;obtain⟨p,l⟩:∃p,(wk (T.mk q r B) 0 0).2=p:=⟨_,rfl⟩;have I:((p:Int) !=0)=true:=by rw[BU];rw[l]at b;omega
  rw[l]at a⊢;have d:=Aa a;have g:=Aa h;clear b f l a i h;go_wp2_with fail;go_ret2;refine⟨?_,g.out⟩;rw[<-d.out];rfl
def Row(g:Nat)(w:Γ)(R:τ):Prop:=w.heap[g]?=some (.cells (R.map (Value.int .u8)).toArray 5)
theorem Row.set{R:τ}(h:Row g w R)(i:Nat)(x:Int):Row g (w.setCell ⟨g,i,none⟩ (η x)) (R.set i x):=by
 have:=AU w g i _ 5 (η x) h;unfold Row;rw[this];congr 2;rw[D7,ES]
theorem Row.cell{R:τ}(h:Row g w R){i:Nat}(hi:i<R.length):w.cell? ⟨g,i,none⟩=some (η (R.getD i 0)):=by
 rw[Aj _ _ _ _ _ _ h];simp[Ad hi]
theorem Row.frozen{R:τ}(h:Row g w R)(i:Nat):w.frozen? ⟨g,i,none⟩=false:=AN _ _ _ _ _ h
theorem NL(R b:τ)(a e:Nat)(v:Int)(f:a+1<=R.length):(R.take (a+1)++b++R.drop e).set a v=R.take a++(v::b)++R.drop e:=by
 have c:R.take (a+1)=R.take a++[R[a]]:=by rw[BP,Ad (by omega)];rfl
 have d:(R.take a).length=a:=by rw[Ap];omega
 rw[c,AX,AX,DC _ _ (by omega),d,C8];simp
theorem Kh(g h S n b:Nat)(R:τ)(w:Γ)(m:Row g w R)(hS:R.length=S)(P:h<=S)(ac:S<=4611686018427387904)(hn:n<16777216)(K:b=128∨b=192)(l:(hd b n).length<=h):
 Calls prog 119 #[σ (ζ g 0) S S,ι h,η b,ι n] w λe w'=>e=ω (ι (h-(hd b n).length:Nat))/\Row g w' (R.take (h-(hd b n).length)++hd b n++R.drop h)/\Touch g w w':=by
 have o:=hd_len b n;have af:b<=192:=by omega
 by_cases L:n<=55
 ·have u:hd b n=[((b+n:Nat):Int)]:=by rw[hd,Ai L]
  rw[u]at l⊢;simp only[CG]at l⊢;obtain⟨a,rfl⟩:∃a,h=a+1:=⟨h-1,by omega⟩;have H:=m.cell (i:=a) (by omega);have J:=m.frozen a;have C:=NL R [] a (a+1) ((b+n:Nat):Int) (by omega);rw[A7,Bj]at C;have f:=m.set a ((b+n:Nat):Int);rw[C]at f;have HR:=Aa f;have U:(n:Int)<=55:=by omega
  clear C f m o u l K;go_enter func119,ntmps119;go_wp2_with fail;go_ret;exact⟨by simp,by simpa using HR.out,Touch.setCell _ _ _ _⟩
 ·have u:hd b n=((b+55+nb n:Nat):Int)::be n:=by rw[hd,Ae L]
  have W:=Gz hn;have M:=ZS (n:=n) (by omega);rw[Ai (by omega)]at o;rw[u]at o l⊢;rw[o]at l⊢;obtain⟨d,rfl⟩:∃d,h=d+(1+nb n):=⟨h-(1+nb n),by omega⟩;rw[show d+(1+nb n)-(1+nb n)=d from by omega];obtain⟨y,B⟩:∃k,nb n=k:=⟨_,rfl⟩;obtain⟨Z,F⟩:∃k,be n=k:=⟨_,rfl⟩;rw[B]at W M P⊢;rw[F];have I:=Aa B;have V:=Aa F;have HR:=Aa m;have U:¬(n:Int)<=55:=by omega
  clear m o u l K B F;go_enter func119,ntmps119;go_wp2_with fail
  go_loopw [1,9,10] (λp c q v=>∃(a k r:Nat)(z:τ),p=ι a/\c=ι k/\q=ι r/\r<=n/\a=d+1+nb r/\k+nb r=y/\Z=be r++z/\Row g v (R.take a++z++R.drop (d+(1+y)))/\Touch g w v) (λ_ _ q _=>(intOf q).toNat)
  case atStart=>exact⟨d+(1+y),0,n,[],rfl,rfl,rfl,Ab _,by rw[I.out];omega,by rw[I.out];omega,by rw[A7];exact V.out.symm,by rw[A7,Bj];exact HR.out,Touch.refl _ _⟩
  case round=>
   obtain⟨a,k,r,z,rfl,rfl,rfl,aa,x,t,s,f,A⟩:=hrel;by_cases Y:r=0
   ·subst Y;rw[Ie]at x t;rw[FW,AH]at s;have X:a=d+1:=(by omega);have Q:k=y:=(by omega);subst X Q s;have E:(R.take (d+1)).length=d+1:=(by rw[Ap];omega);have H:=f.cell (i:=d) (by simp;omega);have J:=f.frozen d;have j:=f.set d ((b+55+k:Nat):Int);rw[NL _ _ _ _ _ (by omega)]at j;have D:=Aa j;have G:=Aa A;clear f j A E x t;go_wp2_with fail;go_ret;exact⟨by simp,by simpa using D.out,G.out.trans (Touch.setCell _ _ _ _)⟩
   ·rw[GI (by omega)]at x t;rw[FM (by omega)]at s;obtain⟨a',rfl⟩:∃a',a=a'+1:=⟨a-1,by omega⟩;have ad:(0:Int)<r:=(by omega);have E:(R.take (a'+1)).length=a'+1:=(by rw[Ap];omega);have H:=f.cell (i:=a') (by simp;omega);have J:=f.frozen a';have j:=f.set a' ((r%256:Nat):Int);rw[NL _ _ _ _ _ (by omega)]at j;have D:=Aa j;have G:=Aa A;have T:=Aa s;have N:=Aa x;have O:=Aa t;have ah:a'+1<=S:=(by omega);have ae:k<10:=(by omega);have ab:r<16777216:=(by omega);clear f j A E x t s;go_wp2_with fail;refine⟨⟨a',k+1,r/256,((r%256:Nat):Int)::z,rfl,by simp,by simp,by omega,by have:=N.out;omega,by have:=O.out;omega,by rw[T.out,AX];rfl,by simpa using D.out,G.out.trans (Touch.setCell _ _ _ _)⟩,?_⟩;simp[intOf];omega
theorem Lo{o dl dc a e:Nat}{i da:Ω}{bs R:τ}(d:Row g w R)(h:Ag w i a e bs)(k:dl=a)(q:o+a<=R.length)(c:0<a->da=some ⟨g,o,none⟩):
 ∃w',(∀ty,(Builtin.copy_ #[32,32] ty #[σ da dl dc,σ i a e]).run prog w= .ok (ι a) w')/\Row g w' (R.take o++bs++R.drop (o+a))/\Touch g w w':=by
 subst k;have b:=h.l;by_cases l:dl=0
 ·subst l;have n:bs=[]:=Aw b;subst n;refine⟨w,λty=>?_,by rw[A7,Cz,Bj];exact d,Touch.refl _ _⟩;rw[run_copy_none (P:=prog) w 32 32 ty 5 _ _ _ _ _ _ υ32 (by kernel_rfl) (by simp)];rfl
 ·obtain⟨gb,off,rfl,s,r,m⟩:=ag_head h (by omega);have c:=c (by omega);subst c;refine⟨_,λty=>?_,?_,Touch.setRow g w ((R.take o++bs++R.drop (o+dl)).map (Value.int .u8)).toArray⟩
  ·rw[run_copy_row (P:=prog) w 32 32 ty 5 g o dl dc ⟨gb,off,none⟩ dl e _ 5 (bs.map (Value.int .u8)) υ32 (by kernel_rfl) d (by simp[b]) ?_ (by simp;omega) (B8_one2 _)]
   ·congr 1
    ·simp[goInt,b]
    ·congr 2;simp[Bp,List.map_take,List.map_drop,b]
   ·intro j v f;have p:j<dl:=(by have:=(Ar.1 f).1;simpa[b]using this);rw[BO,m j p,<-f];simp[Ad (show j<bs.length by omega)]
  ·exact AC _ _ _ _ _ _ d
theorem step_copy{P:Program}{ops:Array Oper}{o:Oper}{a:Act}{w:Γ}{K:Act->Γ->Prop}{Q:Exit->Act->Γ->Prop}{E:Prop}
 (h:o.guard=none) (d x:Operand) (c b:TypeId) (Vj:o.op=Op.call {callee:=Callee.builtin Builtin.copy,args:=#[d,x],argTypes:=#[c,b]})
 (v u:Δ) (hd:a.eval d=v) (i:a.eval x=u) {v':Δ} {w':Γ} (f:(Builtin.copy_ #[c,b] o.type #[v,u]).run P w= .ok v' w') (g:K (a.put o.dst v') w'):
 if Region.wanted o (yielded ops a.tmps)=true then Oper.wp P o a w K Q else E:=by
 have e:Region.wanted o (yielded ops a.tmps)=true:=by simp[Region.wanted,h]
 rw[Ai e];unfold Oper.wp;simp[execOp,Vj,resolve,invoke,builtin,hd,i,f,Result.andThen];exact g
theorem ON{bs:τ}:enc (.mk false bs [])=if bare false bs then bs else hd 128 bs.length++bs:=by rw[Ea,Ct,A7];rfl
theorem VB(bs:τ)(x:V)(g S fin:Nat)(R:τ)(w0 w:Γ)(U:Lies w0 (.mk false bs []) x)(t:Λ w0 w)(hg:w0.heap.size<=g)(J:Row g w R)(hS:R.length=S)(ar:fin<=S)(aj:S<=4611686018427387904)(L:bs.length<16777216)(ac:(enc (.mk false bs [])).length<=fin):
 Calls prog 84 #[σ (ζ g 0) S S,ι fin,γ #[β x.l,σ x.ba x.bn x.bc,σ x.ia x.m x.ic]] w λe w'=>e=ω (ι (fin-(enc (.mk false bs [])).length:Nat))/\Row g w' (R.take (fin-(enc (.mk false bs [])).length)++enc (.mk false bs [])++R.drop fin)/\Touch g w w':=by
 obtain⟨l',f,b,d,q,m,p⟩:=x;obtain⟨h1,l,H,h4,h5,⟨h7,h8⟩,h6⟩:=lies_eq.1 U;simp only at h1 l H h4 h5 h6 h7 h8⊢;subst h1;simp only[BV]at H;have Y:=l.l;have ak:=lt_of_get J;have hA:=l.at t;have ab:bs.length<=(enc (.mk false bs [])).length:=by rw[ON];split<;>simp
 obtain⟨a,ha⟩:∃a,fin=a+b:=⟨fin-b,by omega⟩;subst ha;have X:Row g (w.alloc (.cells #[β false,σ f b d,σ q m p] 108)).drew R:=(Ax _ _ _ ak).trans J;have E:Λ w (w.alloc (.cells #[β false,σ f b d,σ q m p] 108)).drew:=((Ac _ _).alloc (Ab _) _).drew;obtain⟨w1,M,N,C⟩:=Lo (o:=a) (dl:=((a:Int)+b).toNat-a) (dc:=S-a) (da:=if S=a then some ⟨g,0,none⟩else some ⟨g,a,none⟩) X (hA.at E) (by omega) (by omega) (λh=>Ae (by omega));have Q:Ag w1 f b d bs:=l.at (Touch.below (t.alloc t.size _).drew C hg (by have:=t.size;simp;omega));have n:w1.heap[w.heap.size]?=some (.cells #[β false,σ f b d,σ q m p] 108):=(C.block _ (by simp) (by omega)).trans (Ak _ _);have Z:w1.cell? ⟨w.heap.size,0,none⟩=some (β false):=by rw[Aj _ _ _ _ _ _ n];rfl
 have y1:w1.cell? ⟨w.heap.size,1,none⟩=some (σ f b d):=by rw[Aj _ _ _ _ _ _ n];rfl
 have y2:w1.cell? ⟨w.heap.size,2,none⟩=some (σ q m p):=by rw[Aj _ _ _ _ _ _ n];rfl
 have hT:Touch g w w1:=(Touch.of_below E).trans C;have af:=Aa M;have aw:(a:Int)<=(a:Int)+b:=by omega
 have av:(a:Int)+b<=S:=by omega
 obtain⟨i,z⟩:∃i,enc (.mk false bs [])=i:=⟨_,rfl⟩;rw[z]at ac⊢;rw[ON]at z;have W:=Aa z;have aa:=Aa N;have ai:=Aa Q;have HT:=Aa hT;have HX:=Aa n;have j:=Aa Y;clear M N C Q n hT X E hA U l H h6 J z Y ab;go_enter func84,ntmps84;go_wp2_with fail
 go_cut [0] (λo v=>o=σ (ζ g 0) S S/\v=w1)
 case first=>
  go_region_law (refine step_copy rfl _ _ _ _ rfl _ _ rfl rfl (af.out _) ?_)
  all_goals
   go_wp2_with fail
   all_goals
    go_meet
    case rel=>exact⟨by simp[*],rfl⟩
 case rest=>
 obtain⟨rfl,rfl⟩:=hcut;go_wp2_with fail;refine(OM false f b d q m p bs _ ai.out).mono ?_;rintro e r⟨rfl,G⟩;have y:Touch g w r:=HT.out.trans (Touch.of_below G);have s:Row g r (R.take a++bs++R.drop (a+b)):=Below.row G aa.out;have u:=Below.row G HX.out;by_cases A:bare false bs=true
 ·have c:=W.out;rw[Ai A]at c;subst c;rw[A];have ao:=Aa s;have F:=Aa y;clear s y u Z y1 y2;go_wp2_with fail;go_ret;rw[j.out,show a+b-b=a from by omega];exact⟨rfl,ao.out,F.out⟩
 ·have c:=W.out;rw[Ae A]at c;have ad:bare false bs=false:=by simpa using A
  rw[ad];have k:i.length=(hd 128 b).length+b:=by rw[<-c,Af,j.out]
  have P:(R.take a++bs++R.drop (a+b)).length=S:=by simp[j.out];omega
  have Z:r.cell? ⟨w.heap.size,0,none⟩=some (β false):=by rw[Aj _ _ _ _ _ _ u];rfl
  have y1:r.cell? ⟨w.heap.size,1,none⟩=some (σ f b d):=by rw[Aj _ _ _ _ _ _ u];rfl
  have D:=Kh g a S b 128 (R.take a++bs++R.drop (a+b)) r s P (by omega) aj (by rw[j.out]at L;exact L) (.inl rfl) (by omega);rw[show((128:Nat):Int)=128 from rfl]at D;have ae:=Aa D;have F:=Aa y;have al:=Aa c;have am:=Aa k;clear D P u s y c k;go_wp2_with fail;refine ae.out.mono ?_;rintro e w3⟨rfl,B,T⟩;have k:=am.out;have c:=al.out;have aq:(R.take a).length=a:=by rw[Ap];omega
  obtain⟨h,I⟩:∃h,(hd 128 b).length=h:=⟨_,rfl⟩;rw[I]at B k⊢;have K:List.take (a-h) (R.take a++bs++R.drop (a+b))++hd 128 b++List.drop a (R.take a++bs++R.drop (a+b))=R.take (a+b-i.length)++i++R.drop (a+b):=by
   rw[<-c,j.out,Af,I,j.out,show a+b-(h+b)=a-h from by omega,AX (R.take a),Cw (by omega),Ev,CJ (by omega),Cx (by omega),List.drop_take_self];simp
  rw[K]at B;have O:a-h=a+b-i.length:=by omega
  rw[O];have ah:=Aa B;have ap:=Aa (F.out.trans T);clear B T K O k c aq I;go_wp2_with fail;go_ret;exact⟨rfl,ah.out,ap.out⟩
theorem VD{its:List T}:enc (.mk true [] its)=hd 192 (encs its).length++encs its:=by rw[Ea,AH,Ae (by simp[bare])];rfl
theorem Jc{its:List T}(h:its[j]?=some u):encs (its.drop j)=enc u++encs (its.drop (j+1)):=by
 obtain⟨a,e⟩:=Ar.1 h;rw[Bv a,C9,e]
theorem Lp(its:List T)(j:Nat):encs its=encs (its.take j)++encs (its.drop j):=by rw[<-EK,Bj]
def PutSaid(t:T):Prop:=∀(x:V)(g S fin:Nat)(R:τ)(w0 w:Γ),Lies w0 t x->Λ w0 w->w0.heap.size<=g->Row g w R->R.length=S->fin<=S->S<=4611686018427387904->(bodyOf t).length<16777216->(enc t).length<=fin->
 Calls prog 84 #[σ (ζ g 0) S S,ι fin,γ #[β x.l,σ x.ba x.bn x.bc,σ x.ia x.m x.ic]] w λe w'=>e=ω (ι (fin-(enc t).length:Nat))/\Row g w' (R.take (fin-(enc t).length)++enc t++R.drop fin)/\Touch g w w'
theorem Yu{its:List T}(h:its[j]?=some u):(enc u).length+(encs (its.drop (j+1))).length<=(encs its).length:=by
 have:=Ao List.length (Lp its j);rw[Jc h]at this;simp only[Af]at this;omega
theorem VF(t:T):(bodyOf t).length<=(enc t).length:=by
 cases t with
 |mk l bs its=>
  rw[Ea];show(bs++encs its).length<=_;split<;>simp
theorem RQ(R E F:τ)(a len fin:Nat)(e:a<=R.length)(d:E.length=len)(b:len<=a):List.take (a-len) (R.take a++F++R.drop fin)++E++List.drop a (R.take a++F++R.drop fin)=R.take (a-len)++(E++F)++R.drop fin:=by
 have c:(R.take a).length=a:=by rw[Ap];omega
 rw[AX (R.take a),Cw (by omega),Ev,CJ (by omega),Cx (by omega),List.drop_take_self];simp
theorem VG(its:List T)(ih:∀u∈its,form u=true->PutSaid u)(Y:forms its=true):PutSaid (.mk true [] its):=by
 intro x g S fin R w0 w ae F hg W hS a3 ad Z am;obtain⟨l',D,t,z,E,m,r⟩:=x;obtain⟨h1,h2,M,h4,h5,⟨h7,h8⟩,U⟩:=lies_eq.1 ae;simp only at h1 h2 M h4 h5 U h7 h8⊢;subst h1;have X:(encs its).length<16777216:=by simpa[bodyOf,T.bs,T.its]using Z
 obtain⟨A,o⟩:∃A,enc (.mk true [] its)=A:=⟨_,rfl⟩;rw[o]at am⊢;rw[VD]at o;have s:A.length=(hd 192 (encs its).length).length+(encs its).length:=by rw[<-o,Af]
 have aq:=lt_of_get W;have HR:=Aa W;have K:=Aa M;have H6:=Aa U;have HI:=Aa ih;have HF:=Aa (CN Y);have aw:=Aa o;have ai:=Aa s;have bb:r<=2^63-1:=h5;clear W M U ih o s Z ae h2 Y;go_enter func84,ntmps84;go_wp2_with fail;have al:Row g (w.alloc (.cells #[β true,σ D t z,σ E m r] 108)) R:=(Ax _ _ _ aq).trans HR.out;have ax:=Aa al;clear al
 go_loopw [8,9] (λp i v=>∃k a:Nat,k<=m/\p=ι a/\i=ι ((k:Int)-1)/\a+(encs (its.drop k)).length=fin/\Row g v (R.take a++encs (its.drop k)++R.drop fin)/\Touch g (w.alloc (.cells #[β true,σ D t z,σ E m r] 108)) v) (λ_ i _=>(intOf i+1).toNat)
 case atStart=>exact⟨m,fin,Ab _,rfl,rfl,by rw[Bx (by have:=K.out;omega),Ct];rfl,by rw[Bx (by have:=K.out;omega),Ct,A7,Bj];exact ax.out,Touch.refl _ _⟩
 case round=>
  obtain⟨k,a,hk,rfl,rfl,C,f,c⟩:=hrel;have B:wr.heap[w.heap.size]?=some (.cells #[β true,σ D t z,σ E m r] 108):=(c.block _ (by simp) (by omega)).trans (Ak _ _);have y0:wr.cell? ⟨w.heap.size,0,none⟩=some (β true):=by rw[Aj _ _ _ _ _ _ B];rfl
  have y1:wr.cell? ⟨w.heap.size,1,none⟩=some (σ D t z):=by rw[Aj _ _ _ _ _ _ B];rfl
  have y2:wr.cell? ⟨w.heap.size,2,none⟩=some (σ E m r):=by rw[Aj _ _ _ _ _ _ B];rfl
  clear B;cases k with
  |succ j=>
   have hj:j<its.length:=(by have:=K.out;omega);obtain⟨u,d⟩:∃u,its[j]?=some u:=⟨_,Ad hj⟩;have ab:u∈its:=AL d;obtain⟨P,off,y,ah⟩:=Eb H6.out j u d;rw[A6]at ah;have q:Λ w0 wr:=Touch.below (F.alloc F.size _) c hg (by have:=F.size;simp;omega);obtain⟨rfl,N,V,O,ac⟩:=ah;have a7:=(q.cell (p:=⟨P,off+j*3,none⟩) (Al N)).trans N;have a8:=(q.cell (p:=⟨P,off+j*3+1,none⟩) (Al V)).trans V;have a9:=(q.cell (p:=⟨P,off+j*3+2,none⟩) (Al O)).trans O;have ao:=Yu d;have aa:(enc u).length<=a:=(by have:=Ao List.length (Lp its j);rw[Jc d]at this;simp only[Af]at this;have:=ai.out;omega);have av:a<=R.length:=(by omega);have h:(R.take a++encs (its.drop (j+1))++R.drop fin).length=S:=(by simp;omega);have b:=HI.out u ab (HF.out u ab) y g S a _ w0 wr ac q hg f h (by omega) ad (by have:=VF u;omega) aa;rw[RQ R (enc u) _ a _ fin av rfl aa,<-Jc d]at b;have aj:a-(enc u).length+(encs (its.drop j)).length=fin:=(by rw[Jc d,Af];omega);have G:=Aa b;have ay:=Aa aj;have Q:=Aa c;rw[show(((j+1:Nat):Int)-1)=(j:Int)from by omega];have a5:(0:Int)<=j:=(by omega);have a4:(j:Int)<m:=(by omega);have az:j<m:=(by omega);clear b aj c f N V O ac q ao h C;go_wp2_with fail;refine G.out.mono ?_;rintro e w1⟨rfl,n,l⟩;have J:=Aa n;have I:=Aa (Q.out.trans l);clear n l;go_wp2_with fail;refine⟨⟨j,a-(enc u).length,by omega,rfl,rfl,ay.out,J.out,I.out⟩,?_⟩;simp[intOf]
  |zero=>
   rw[C1]at C f;have s:=ai.out;have h:(R.take a++encs its++R.drop fin).length=S:=(by simp;omega);have b:=Kh g a S (encs its).length 192 _ wr f h (by omega) ad X (.inr rfl) (by omega);rw[RQ R _ _ a _ fin (by omega) rfl (by omega),aw.out,show a-(hd 192 (encs its).length).length=fin-A.length from by omega]at b;rw[show((192:Nat):Int)=192 from rfl]at b;have H:fin=a+(encs its).length:=C.symm;obtain⟨L,ak⟩:∃L,(encs its).length=L:=⟨_,rfl⟩;rw[ak]at b H X;have G:=Aa b;have Q:=Aa c;have ar:=Aa H;have af:(fin:Int)-a=L:=(by omega);have ap:=Aa af;clear b c f s C h ak H af;rw[show(((0:Nat):Int)-1)=-1 from rfl];have a6:(a:Int)<=fin:=(by have:=ar.out;omega);have bf:fin<9223372036854775807:=(by omega);go_wp2_with fail;rw[ap.out];refine G.out.mono ?_;rintro e w1⟨rfl,n,l⟩;have J:=Aa n;have I:=Aa ((Touch.of_below ((Ac _ _).alloc (Ab _) _)).trans (Q.out.trans l));clear n l;go_wp2_with fail;go_ret;exact⟨rfl,J.out,I.out⟩
theorem Yw:∀t,form t=true->PutSaid t:=by
 refine T.ind λl bs its i h=>?_;cases l with
 |false=>
  have:=Ej h;subst this;intro x g S fin R w0 w f c o k m d e a b;exact VB bs x g S fin R w0 w f c o k m d e (by simpa[bodyOf,T.bs,T.its,Ct]using a) b
 |true=>
  obtain⟨n,j⟩:=EL h;subst n;exact VG its i j
def encP(t:T):τ×Nat:=if(mP t).2=0 then(enc t,0)else([],(mP t).2)
theorem ZU{t:T}(h:(mP t).2=0):(wk t 0 0).2=0/\szb t<=16777215/\(mP t).1=sz t:=by
 unfold mP at*;by_cases a:(wk t 0 0).2=0
 ·rw[Ae (by rw[a];simp)]at h⊢;by_cases b:16777215<szb t
  ·rw[Ai b]at h;cases h
  ·rw[Ae b];exact⟨a,by omega,rfl⟩
 ·rw[Ai a]at h;exact absurd h a
theorem MA(n:Nat):∀x∈be n,0<=x/\x<256:=by
 induction n using Nat.strongRecOn with
 |_ n b=>
  by_cases h:n=0
  ·subst h;rw[FW];intro x a;cases a
  ·rw[FM (by omega)];intro x a;rcases AP.1 a with a|a
   ·exact b _ (Ei (by omega) (by decide)) x a
   ·simp at a;omega
theorem Tw{l:Bool}(b:n<16777216):∀x∈hd (baseOf l) n,0<=x/\x<256:=by
 have c:baseOf l<=192:=by cases l<;>decide
 intro x a;unfold hd at a;split at a
 ·simp at a;omega
 ·rcases Ay.1 a with rfl|a
  ·have:=Gz b;omega
  ·exact MA n x a
theorem OO{its:List T}(b:∀t∈its,byt t->(bodyOf t).length<16777216->∀x∈enc t,0<=x/\x<256):byts its->(encs its).length<16777216->∀x∈encs its,0<=x/\x<256:=by
 induction its with
 |nil=>intro _ _ x a;rw[Ct]at a;cases a
 |cons t r d=>
  intro h c x a;obtain⟨f,e⟩:=(M8 t r).1 h;rw[C9]at a c;rw[Af]at c;rcases AP.1 a with a|a
  ·exact b t (C0 ..) f (by have:=VF t;omega) x a
  ·exact d (λu g=>b u (Az _ g)) e (by omega) x a
theorem Lq:∀t,byt t->(bodyOf t).length<16777216->∀x∈enc t,0<=x/\x<256:=by
 refine T.ind λl bs its d h e x a=>?_;obtain⟨g,f⟩:=(GJ l bs its).1 h;have c:(bs++encs its).length<16777216:=e;have b:∀x∈bs++encs its,0<=x/\x<256:=K8 g (OO d f (by rw[Af]at c;omega));rw[Ea]at a;split at a
 ·exact b x a
 ·rcases AP.1 a with a|a
  ·exact Tw c x a
  ·exact b x a
theorem Jd{t:T}(h:(mP t).2=0):(mP t).1=(enc t).length/\(bodyOf t).length<16777216/\form t=true:=by
 obtain⟨b,d,c⟩:=ZU h;have a:=IZ t 0 0 b;rw[c,Vz t a,<-IY a];exact⟨rfl,by omega,a⟩
theorem Lr{t:T}(b:(bodyOf t).length<16777216):(enc t).length<=16777220:=by
 obtain⟨l,bs,its⟩:=t;have a:(bs++encs its).length<16777216:=b;rw[Ea];split
 ·omega
 ·rw[Af,hd_len];have:=Gz a;split<;>omega
theorem made_bytes(n:Nat):madeCells #[η 0] n=((List.replicate n (0:Int)).map (Value.int .u8)).toArray:=by
 apply Array.ext';rw[toList_madeCells_one];simp
theorem row_ag{bs:τ}(h:Row g w bs)(a:bs.length=n)(d:∀x∈bs,0<=x/\x<256)(e:n<=9223372036854775807):Ag w (ζ g 0) n n bs:=by
 refine⟨?_,(λh=>by cases h),a,d⟩;by_cases c:n=0
 ·exact .inl ⟨c,Aw (by omega)⟩
 ·exact .inr ⟨g,0,rfl,a,by omega,Ab _,by unfold maxLen;omega,λj b=>by rw[A6];exact h.cell b⟩
theorem info5b:(prog.info? 5).map (λi=>(i.zero,i.size,i.bytes))=some (some (η 0),1,1):=by kernel_rfl
end
section
variable {deep : Bool} {b : List Int} {d n : Nat}
theorem VH{P:τ->Prop}(h0:P [])(h1:∀r x,P r->P (r++[x]))(l:τ):P l:=by
 have:∀m:τ,P m.reverse:=by
  intro m
  induction m with
  |nil=>exact h0
  |cons x r ih=>rw[List.reverse_cons];exact h1 _ _ ih
 have:=this l.reverse;rwa [List.reverse_reverse]at this
theorem Xas(s:τ):(∀x∈s,0<=x/\x<256)->s.headD 0≠0->be (val s)=s:=by
 induction s using VH with
 |h0=>intro _ h;exact absurd rfl h
 |h1 r x b=>
  intro h a;have f:=h x (by simp);rw[Ja];cases r with
  |nil=>
   have d:x≠0:=a;rw[show val ([]:τ)=0 from rfl,FM (by omega),show(0*256+x.toNat)/256=0 from by omega,FW];simp;omega
  |cons y r=>
   have h1:=b (λz c=>h z (DJ _ c)) a;have e:0<val (y::r):=by
    rcases Nat.eq_zero_or_pos (val (y::r))with h0|h0
    ·rw[h0,FW]at h1;cases h1
    ·exact h0
   rw[FM (by omega),show(val (y::r)*256+x.toNat)/256=val (y::r)from by omega,h1,show(((val (y::r)*256+x.toNat)%256:Nat):Int)=x from by omega]
theorem Tx{f t:Nat}(d:∀x∈b,0<=x/\x<256)(h:hdr deep b= .ok f t):
 (b.headD 0<128/\f=0/\t=1/\0<b.length)∨(128<=b.headD 0/\1<=f/\f<=t/\t<=b.length/\t-f<=16777215/\b.take f=hd (if 192<=b.headD 0 then 192 else 128) (t-f)/\(192<=b.headD 0->deep=false)/\(f=1↔t-f<=55)):=by
 have D:=Ll h;unfold hdr at h;split at h
 ·cases h
 ·rename_i c r;have F:=d c (by simp);split at h
  ·cases h
  ·rename_i n;have g:192<=c->deep=false:=λa=>by
    cases deep with
    |false=>rfl
    |true=>exact absurd ⟨a,rfl⟩ n
   split at h
   ·rename_i a;cases h;exact .inl ⟨a,rfl,rfl,by simp⟩
   ·rename_i a;have z:(if 192<=c then 192 else 128:Nat)+nOf c=c.toNat:=by
     unfold nOf;split<;>omega
    have A:nOf c<=63:=by
     unfold nOf;split<;>omega
    right;show 128<=c/\_;refine⟨by omega,?_⟩;show 1<=f/\f<=t/\t<=(c::r).length/\t-f<=16777215/\(c::r).take f=hd (if 192<=c then 192 else 128) (t-f)/\(192<=c->deep=false)/\_;split at h
    ·rename_i o;split at h
     ·cases h
     ·rename_i v;obtain⟨u,l,w,E,q⟩:=GK (Decidable.not_not.1 v);split at h
      ·cases h
      ·cases h;rw[q]at*;have C:1<=nOf c-55:=(by omega);have B:=DE (b:=r) (λx e=>d x (Az _ e)) (j:=nOf c-55) l u;have m:(r.take (nOf c-55)).headD 0≠0:=by
        cases r with
        |nil=>simp at l;omega
        |cons y r=>
         obtain⟨k,s⟩:∃k,nOf c-55=k+1:=⟨nOf c-55-1,by omega⟩;rw[s];exact w
       have i:=Xas (r.take (nOf c-55)) (λx e=>d x (Az _ (Bb e))) m;have p:nb (val (r.take (nOf c-55)))=nOf c-55:=by
        rw[<-JK,i,Ap];omega
       refine⟨by omega,by omega,by omega,by omega,?_,g,by constructor<;>intro _<;>omega⟩;rw[show 1+(nOf c-55)+val (r.take (nOf c-55))-(1+(nOf c-55))=val (r.take (nOf c-55))from by omega];unfold hd;rw[Ae (by omega),p,i,show 1+(nOf c-55)=(nOf c-55)+1 from by omega,CF];congr 1;omega
    ·rename_i o;split at h
     ·cases h
     ·cases h;refine⟨by omega,by omega,by omega,by omega,?_,g,by constructor<;>intro _<;>omega⟩;rw[show 1+nOf c-1=nOf c from by omega];unfold hd;rw[Ai (by omega)];show[c]=_;congr 1;omega
def Good(d:Nat)(b:τ)(t:T)(n:Nat):Prop:=
 enc t=b.take n/\form t=true/\∀w,w+n<=16777215->(wk t d w).2=0/\(wk t d w).1<=w+n
theorem Ls{d:Nat}{g:τ->R}(j:∀b t n,(∀x∈b,0<=x/\x<256)->g b= .ok t n->Good d b t n/\1<=n/\n<=b.length):
 ∀(n:Nat)(b:τ)(ts:List T),(∀x∈b,0<=x/\x<256)->rdAll g n b= .ok ts->encs ts=b/\forms ts=true/\∀w,w+b.length<=16777215->(wks ts d w).2=0/\(wks ts d w).1<=w+b.length
 |n,[],ts,a,h=>by
  rw[EZ]at h;cases h;exact⟨Ct,E3,λw k=>by rw[Er];exact⟨rfl,by simp⟩⟩
 |0,x::b,ts,a,h=>by cases h
 |n+1,x::b,ts,a,h=>by
  cases f:g (x::b)with
  |bad e=>rw[FA (by simp) f]at h;cases h
  |ok t m=>
   rw[Gi (by simp) f]at h;obtain⟨⟨q,v,A⟩,C,m2⟩:=j _ _ _ a f;cases c:rdAll g n ((x::b).drop m)with
   |bad e=>rw[c]at h;cases h
   |ok us=>
    rw[c]at h;cases h;obtain⟨s,u,p⟩:=Ls j n _ us (λy r=>a y (BA r)) c;refine⟨by rw[C9,q,s,Bj],by rw[I8,v,u];rfl,λw k=>?_⟩;have e:=A3 (i:=m) (l:=x::b);obtain⟨z,D⟩:=A w (by omega);rw[Fi,Ai z];obtain⟨o,B⟩:=p _ (show(wk t d w).1+((x::b).drop m).length<=16777215 by omega);exact⟨o,by omega⟩
theorem VI{f t:Nat}(h:f<=t):b.take t=b.take f++(b.take t).drop f:=by
 conv=>lhs;rw[<-Bj f (b.take t)];rw[Ev,CJ h]
theorem VJ{l:Bool}{bs:τ}(h:bs.length<=n)(a:1<=n):wt l bs d<=n:=by
 unfold wt;split<;>omega
theorem OP{g:τ->R}(L:deep=false->d<8)(Y:∀b t n,(∀x∈b,0<=x/\x<256)->g b= .ok t n->Good (d+1) b t n/\1<=n/\n<=b.length){t:T}(D:∀x∈b,0<=x/\x<256)(h:rd1 g deep b= .ok t n):
 Good d b t n/\(bodyOf t).length<=16777215/\((wk t 0 0).2=0∨d≠0):=by
 have hn:=V6 h;unfold rd1 at h;split at h
 ·cases h
 ·rename_i f t' G;have p:=Tx D G;have ab:=Ll G;have i:((b.take t').drop f).length=t'-f:=by rw[A3,Ap];omega
  split at h
  ·rename_i H;split at h
   ·cases h
   ·rename_i J;cases h;have e:∀a w,w+wt false ((b.take n).drop f) a<=16777215->wk (.mk false ((b.take n).drop f) []) a w=(w+wt false ((b.take n).drop f) a,0):=by
     intro a w q;rw[IX,Ae (by simp),Ae (by simp[wrongForm]),Ae (by omega),Er]
    have N:∀a,wt false ((b.take n).drop f) a<=n:=λa=>VJ (by omega) hn.1;have z:((b.take n).drop f).length<=16777215:=by
     rw[i];rcases p with⟨_,rfl,rfl,_⟩|⟨_,_,_,_,l,_⟩
     ·omega
     ·exact l
    refine⟨⟨?_,?_,?_⟩,?_,?_⟩
    ·rw[Ea,Ct,A7];rcases p with⟨j,rfl,rfl,o⟩|⟨j,X,s,o,l,k,E,F⟩
     ·cases b with
      |nil=>simp at o
      |cons c r=>
       have O:c<128:=j;rw[Ai (by simp[bare,O])];simp
     ·have V:bare false ((b.take n).drop f)=false:=by
       unfold bare;by_cases A:((b.take n).drop f).length=1
       ·rw[i]at A;have U:f=1:=F.2 (by omega);subst U;have P:n=2:=(by omega);subst P;have I:¬b.getD 1 0<128:=λM=>J ⟨rfl,rfl,M⟩;have Q:((b.take 2).drop 1).headD 0=b.getD 1 0:=by
         cases b with
         |nil=>rfl
         |cons c r=>cases r<;>rfl
        rw[Q,Bi I];simp
       ·rw[Bi A];rfl
      rw[V,Ae (by simp),i,baseOf,Ae (by simp)];rw[Ae (by omega)]at k;rw[<-k,<-VI s]
    ·rw[FX,E3];simp
    ·intro w q;have:=N d;rw[e d w (by omega)];exact⟨rfl,by show w+_<=_;omega⟩
    ·show((b.take n).drop f++encs []).length<=16777215;rw[Ct,A7];exact z
    ·left;have:wt false ((b.take n).drop f) 0<=16777215:=VJ z (by omega);rw[e 0 0 (by omega)]
  ·rename_i H;split at h
   ·cases h
   ·rename_i ts S;cases h;rcases p with⟨j,_⟩|⟨j,X,s,o,l,k,E,F⟩
    ·exact absurd j (by omega)
    ·have u:192<=b.headD 0:=(by omega);have K:=L (E u);obtain⟨C,r2,m⟩:=Ls Y _ _ ts (λy Z=>D y (Bb (BA Z))) S;have v:(encs ts).length=n-f:=(by rw[C,i]);have e:∀a w,a<8->w+wt true [] a<=16777215->wk (.mk true [] ts) a w=wks ts (a+1) (w+wt true [] a):=by
      intro a w ac q;rw[IX,Ae (by simp;omega),Ae (by simp[wrongForm]),Ae (by omega)]
     rw[i]at m;refine⟨⟨?_,?_,?_⟩,?_,?_⟩
     ·rw[Ea,AH,Ae (by simp[bare]),v,baseOf,Ai rfl];rw[Ai u]at k;rw[<-k,C,<-VI s]
     ·rw[FX,r2];rfl
     ·intro w q;have aa:wt true [] d<=1:=VJ (by simp) (by omega);rw[e d w K (by omega)];obtain⟨a1,a2⟩:=m (w+wt true [] d) (by omega);exact⟨a1,by omega⟩
     ·show(([]:τ)++encs ts).length<=16777215;rw[AH,v];exact l
     ·by_cases B:d=0
      ·subst B;left;have W:wt true [] 0=0:=rfl;rw[e 0 0 (by omega) (by omega),W];exact(m 0 (by omega)).1
      ·exact .inr B
theorem RY:∀k d,d+k=8->∀b t n,(∀x∈b,0<=x/\x<256)->rd k b= .ok t n->Good d b t n/\(bodyOf t).length<=16777215/\((wk t 0 0).2=0∨d≠0)
 |0,d,hd,b,t,n,a,h=>OP (deep:=true) (λh=>by cases h) (λb t n _ h=>by cases h) a h
 |k+1,d,hd,b,t,n,a,h=>OP (g:=rd k) (deep:=false) (λ_=>by omega) (λb t n a h=>⟨(RY k (d+1) (by omega) b t n a h).1,OL h⟩) a h
theorem Yz{t:T}(g:∀x∈b,0<=x/\x<256)(h:rd 8 b= .ok t b.length):encP t=(b,0)/\(mP t).2=0:=by
 obtain⟨⟨c,f,_⟩,i,e⟩:=RY 8 0 rfl b t b.length g h;have d:(wk t 0 0).2=0:=e.resolve_right (λh=>h rfl);have a:(mP t).2=0:=by
  unfold mP;rw[Ae (by rw[d];simp),Ae (by rw[IY f];omega)]
 rw[Dv]at c;exact⟨by unfold encP;rw[Ai a,c],a⟩
end
section
variable {w w' : World} {n c k : Nat} {P : Nat → Prop} {a : Option Addr}
theorem Je(a:Ω)(n c k:Nat)(b:τ)(w:Γ)(h:Ag w a n c b)(Y:1<=k)(S:k<=8)(Z:n<=4611686018427387904):
 Calls prog 175 #[σ a n c,ι k] w λe w'=>e=ω (θ #[ι ((lenIn b k).1:Nat),ι ((lenIn b k).2:Nat)])/\Λ w w':=by
 have u:=h.l;obtain⟨r,d⟩:∃r,lenIn b k=r:=⟨_,rfl⟩;rw[d];unfold lenIn at d;by_cases H:3<k
 ·rw[Ai H]at d;subst d;have M:(3:Int)<k:=by omega
  clear h;go_enter func175,ntmps175;go_wp2_with fail;go_ret2;exact⟨rfl,Ac _ _⟩
 rw[Ae H]at d;have M:¬(3:Int)<k:=by omega
 by_cases z:b.length<k
 ·rw[Ai z]at d;subst d;have J:(n:Int)<k:=by omega
  clear h;go_enter func175,ntmps175;go_wp2_with fail;go_ret2;exact⟨rfl,Ac _ _⟩
 rw[Ae z]at d;have J:¬(n:Int)<k:=by omega
 obtain⟨g,off,rfl,X,N,B⟩:=ag_head h (by omega);unfold maxLen at N;have HR:=Aa d;have HC:=Aa B;have y:=Aa h.b;have A:=Aa u;have C:=B 0 (by omega);rw[Cz]at C;have R:k<=c:=by omega
 clear h d B u z;go_enter func175,ntmps175;go_wp2_with fail
 go_loopw [6,19] (λq i v=>∃j:Nat,j<=k/\i=ι j/\q=ι (val (b.take j):Nat)/\v=w) (λ_ i _=>k-(intOf i).toNat)
 case atStart=>exact⟨0,by omega,rfl,rfl,rfl⟩
 case round=>
  obtain⟨j,hj,rfl,rfl,rfl⟩:=hrel;by_cases Q:j<k
  ·have I:=HC.out j (by omega);have s:=y.out;have u:=A.out;obtain⟨t,G⟩:=DE s (j:=j) (by omega) (by omega);have E:=DE s (j:=j+1) (by omega) (by omega);have p:=s (b.getD j 0) (by rw[List.getD,Ad (by omega)];exact Bh _);have l:=Lk (b:=b) (j:=j) (by omega);obtain⟨q,o⟩:∃q,val (b.take j)=q:=⟨_,rfl⟩;obtain⟨x,f⟩:∃x,b.getD j 0=x:=⟨_,rfl⟩;rw[o]at t l⊢;rw[f]at I p l;obtain⟨m,T⟩:=p;rw[l]at E;have W:q<65536:=(by omega);have P:=Aa l;have L:(j:Int)<k:=(by omega);have V:bits BinOp.or IntKind.i64 ((q:Int)*256) x=(q:Int)*256+x:=by
    refine bits_join .i64 40 (by decide) (λn a b=>by rw[IntKind.wrap_i64];omega) 8 _ _ (by omega) (by omega) (by omega) m (by omega) (by omega)
   clear l s u t G E o f;go_wp2_with fail;refine⟨⟨j+1,by omega,by simp,?_,trivial⟩,?_⟩
   ·rw[P.out];simp;omega
   ·simp[intOf];omega
  ·have K:j=k:=(by omega);subst K;have L:¬(j:Int)<j:=(by omega);obtain⟨t,G⟩:=DE y.out (j:=j) (by have:=A.out;omega) (by omega);have F:b.headD 0=b.getD 0 0:=(by cases b<;>rfl);have d:=HR.out;rw[F]at d;have p:=y.out (b.getD 0 0) (by rw[List.getD,Ad (by have:=A.out;omega)];exact Bh _);obtain⟨q,o⟩:∃q,val (b.take j)=q:=⟨_,rfl⟩;obtain⟨x,f⟩:∃x,b.getD 0 0=x:=⟨_,rfl⟩;rw[o]at t d⊢;rw[f]at C d p;clear o f F;by_cases m:x=0
   ·subst m;rw[Ai (.inl rfl)]at d;subst d;clear p;go_wp2_with fail;go_ret2;exact⟨rfl,Ac _ _⟩
   ·have U:(x==0)=false:=(by simp[m]);by_cases D:q<=55
    ·rw[Ai (.inr D)]at d;subst d;have O:(q:Int)<=55:=(by omega);go_wp2_with fail;go_ret2;exact⟨rfl,Ac _ _⟩
    ·rw[Ae (by intro h;rcases h with h|h;exact m h;exact D h)]at d;subst d;have O:¬(q:Int)<=55:=(by omega);go_wp2_with fail;go_ret2;exact⟨rfl,Ac _ _⟩
def HR.f:HR->Nat| .bad _=>0| .ok f _=>f
def HR.t:HR->Nat| .bad _=>0| .ok _ t=>t
def HR.e:HR->Nat| .bad e=>e| .ok _ _=>0
theorem ag_drop{g off:Nat}{b:τ}(h:Ag w (ζ g off) n c b)(p:k<=n):Ag w (if c=k then some ⟨g,off,none⟩else some ⟨g,off+k,none⟩) (n-k) (c-k) (b.drop k):=by
 have a:=h.l;refine⟨?_,?_,by rw[A3,a],λx m=>h.b x (BA m)⟩
 ·by_cases l:n-k=0
  ·exact .inl ⟨l,Bx (by omega)⟩
  ·rcases h.i with⟨e,_⟩|⟨g',o,e,q,t,r,s,f⟩
   ·omega
   ·cases e;refine .inr ⟨g,off+k,Ae (by omega),by rw[A3,a],by omega,by omega,by omega,λj i=>?_⟩;rw[A3]at i;have:=f (k+j) (by omega);rw[C4,this];simp[List.getD]
 ·intro d;split at d<;>cases d
theorem Lt(g off n c d k:Nat)(x:Int)(r:τ)(w:Γ)(P:w.cell? ⟨g,off,none⟩=some (η x))(Z:0<=x)(V:x<256)(S:192<=x)(X:((d:Int)==8)=false)(Q:¬x<128)(ab:n<=c)(W:c<=2^63-1)(hn:n<=4611686018427387904)
 (l:r.length+1=n) (hdr:Ag w (if c=1 then some ⟨g,off,none⟩else some ⟨g,off+1,none⟩) (n-1) (c-1) r) (B:55<x-192) (A:x-192-55=(k:Int)) (R:HR)
 (s:(if(lenIn r k).2≠0 then HR.bad (lenIn r k).2 else if r.length+1-(1+k)<(lenIn r k).1 then HR.bad 22 else HR.ok (1+k) (1+k+(lenIn r k).1))=R):
 Calls prog 171 #[σ (ζ g off) n c,ι d] w λe w'=>e=ω (θ #[ι (R.f:Nat),ι (R.t:Nat),ι (R.e:Nat)])/\Λ w w':=by
 have aa:((n:Int)==0)=false:=by simp;omega
 have T:0<n:=by omega
 have Y:(0:Int)<n:=by omega
 have E:1<=k:=by omega
 have G:k<=8:=by omega
 have i:=@GK r k;have o:=Je _ (n-1) (c-1) k r w hdr E G (by omega);obtain⟨L,C⟩:∃L,lenIn r k=L:=⟨_,rfl⟩;obtain⟨q,f⟩:=L;rw[C]at s i o;simp only at s i o;have y:f=0->q<16777216:=λa=>by
  obtain⟨N,M,_,_,J⟩:=i a;rw[J];obtain⟨v1,v2⟩:=DE hdr.b M N;omega
 have t:f=0->1+k<=n:=λa=>by have:=(i a).2.1;omega
 have O:=Aa y;have z:=Aa t;have m:=Aa o;have u:=Aa s;have D:=Aa A;have K:=Aa l;have U:(55:Int)<x-192:=B;clear i C y t o s A l hdr B;by_cases v:c=1
 ·subst v;have H:n=1:=by omega
  subst H;simp only[if_true,C8]at m;go_enter func171,ntmps171;go_wp2_with fail;rw[D.out];refine m.out.mono ?_;rintro e w1⟨rfl,j⟩;have a:f≠0:=λh=>by have:=z.out h;omega
  ·have b:=u.out;rw[Ai a]at b;have F:((f:Int) !=0)=true:=(by rw[BU];omega);subst b;clear a;go_wp2_with fail;go_ret3;exact⟨rfl,j⟩
 ·rw[Ae v]at m;go_enter func171,ntmps171;go_wp2_with fail;rw[D.out];refine m.out.mono ?_;rintro e w1⟨rfl,j⟩;by_cases a:f=0
  ·have hv:=O.out a;have t:=z.out a;have b:=u.out;rw[Ae (by rw[a];simp)]at b;have l:=K.out;subst a;rw[show((0:Nat):Int)=0 from rfl];by_cases p:r.length+1-(1+k)<q
   ·rw[Ai p]at b;have I:(n:Int)-(1+k)<q:=(by omega);subst b;clear l p;go_wp2_with fail;go_ret3;exact⟨rfl,j⟩
   ·rw[Ae p]at b;have I:¬(n:Int)-(1+k)<q:=(by omega);subst b;clear l p;go_wp2_with fail;go_ret3;exact⟨by simp[HR.f,HR.t,HR.e],j⟩
  ·have b:=u.out;rw[Ai a]at b;have F:((f:Int) !=0)=true:=(by rw[BU];omega);subst b;clear a;go_wp2_with fail;go_ret3;exact⟨rfl,j⟩
theorem Lu(g off n c d k:Nat)(x:Int)(r:τ)(w:Γ)(P:w.cell? ⟨g,off,none⟩=some (η x))(Y:0<=x)(V:x<256)(S:¬192<=x)(Q:¬x<128)(aa:n<=c)(W:c<=2^63-1)(hn:n<=4611686018427387904)
 (l:r.length+1=n) (hdr:Ag w (if c=1 then some ⟨g,off,none⟩else some ⟨g,off+1,none⟩) (n-1) (c-1) r) (B:55<x-128) (A:x-128-55=(k:Int)) (R:HR)
 (s:(if(lenIn r k).2≠0 then HR.bad (lenIn r k).2 else if r.length+1-(1+k)<(lenIn r k).1 then HR.bad 22 else HR.ok (1+k) (1+k+(lenIn r k).1))=R):
 Calls prog 171 #[σ (ζ g off) n c,ι d] w λe w'=>e=ω (θ #[ι (R.f:Nat),ι (R.t:Nat),ι (R.e:Nat)])/\Λ w w':=by
 have Z:((n:Int)==0)=false:=by simp;omega
 have T:0<n:=by omega
 have X:(0:Int)<n:=by omega
 have E:1<=k:=by omega
 have G:k<=8:=by omega
 have i:=@GK r k;have o:=Je _ (n-1) (c-1) k r w hdr E G (by omega);obtain⟨L,C⟩:∃L,lenIn r k=L:=⟨_,rfl⟩;obtain⟨q,f⟩:=L;rw[C]at s i o;simp only at s i o;have y:f=0->q<16777216:=λa=>by
  obtain⟨N,M,_,_,J⟩:=i a;rw[J];obtain⟨v1,v2⟩:=DE hdr.b M N;omega
 have t:f=0->1+k<=n:=λa=>by have:=(i a).2.1;omega
 have O:=Aa y;have z:=Aa t;have m:=Aa o;have u:=Aa s;have D:=Aa A;have K:=Aa l;have U:(55:Int)<x-128:=B;clear i C y t o s A l hdr B;by_cases v:c=1
 ·subst v;have H:n=1:=by omega
  subst H;simp only[if_true,C8]at m;go_enter func171,ntmps171;go_wp2_with fail;rw[D.out];refine m.out.mono ?_;rintro e w1⟨rfl,j⟩;have a:f≠0:=λh=>by have:=z.out h;omega
  ·have b:=u.out;rw[Ai a]at b;have F:((f:Int) !=0)=true:=(by rw[BU];omega);subst b;clear a;go_wp2_with fail;go_ret3;exact⟨rfl,j⟩
 ·rw[Ae v]at m;go_enter func171,ntmps171;go_wp2_with fail;rw[D.out];refine m.out.mono ?_;rintro e w1⟨rfl,j⟩;by_cases a:f=0
  ·have hv:=O.out a;have t:=z.out a;have b:=u.out;rw[Ae (by rw[a];simp)]at b;have l:=K.out;subst a;rw[show((0:Nat):Int)=0 from rfl];by_cases p:r.length+1-(1+k)<q
   ·rw[Ai p]at b;have I:(n:Int)-(1+k)<q:=(by omega);subst b;clear l p;go_wp2_with fail;go_ret3;exact⟨rfl,j⟩
   ·rw[Ae p]at b;have I:¬(n:Int)-(1+k)<q:=(by omega);subst b;clear l p;go_wp2_with fail;go_ret3;exact⟨by simp[HR.f,HR.t,HR.e],j⟩
  ·have b:=u.out;rw[Ai a]at b;have F:((f:Int) !=0)=true:=(by rw[BU];omega);subst b;clear a;go_wp2_with fail;go_ret3;exact⟨rfl,j⟩
theorem IA(a:Ω)(n c d:Nat)(b:τ)(w:Γ)(h:Ag w a n c b)(hd:d<=8)(I:n<=4611686018427387904):
 Calls prog 171 #[σ a n c,ι d] w λe w'=>e=ω (θ #[ι ((hdr (decide (d=8)) b).f:Nat),ι ((hdr (decide (d=8)) b).t:Nat),ι ((hdr (decide (d=8)) b).e:Nat)])/\Λ w w':=by
 have j:=h.l;cases b with
 |nil=>
  simp at j;subst j;clear h;go_enter func171,ntmps171;go_wp2_with fail;go_ret3;exact⟨rfl,Ac _ _⟩
 |cons x r=>
  simp only[AE]at j;obtain⟨g,off,rfl,H,A,J⟩:=ag_head h (by omega);unfold maxLen at A;have z:=J 0 (by omega);simp only[Cz,List.getD_cons_zero]at z;obtain⟨F,G⟩:=h.b x (by simp);have O:((n:Int)==0)=false:=by simp;omega
  have M:0<n:=by omega
  have N:(0:Int)<n:=by omega
  have y:=ag_drop h (k:=1) (by omega);simp only[List.drop_succ_cons,C1]at y;obtain⟨R,i⟩:∃R,hdr (decide (d=8)) (x::r)=R:=⟨_,rfl⟩;rw[i];simp only[hdr,AE]at i;have E:=Aa y;have Q:=Aa j;clear h J y;by_cases l:192<=x/\d=8
  ·obtain⟨l,rfl⟩:=l;rw[Ai ⟨l,by simp⟩]at i;subst i;clear j;go_enter func171,ntmps171;go_wp2_with fail;go_ret3;exact⟨rfl,Ac _ _⟩
  rw[Ae (by simpa using l)]at i;by_cases v:x<128
  ·rw[Ai v]at i;subst i;have S:¬192<=x:=(by omega);clear j l;go_enter func171,ntmps171;go_wp2_with fail;go_ret3;exact⟨rfl,Ac _ _⟩
  rw[Ae v]at i;by_cases u:192<=x
  ·have L:((d:Int)==8)=false:=(by simp;simp[u]at l;omega);have q:nOf x=(x-192).toNat:=(by unfold nOf;rw[Ai u]);rw[q]at i;by_cases p:55<(x-192).toNat
   ·obtain⟨k,C⟩:∃k:Nat,x-192-55=(k:Int):=⟨(x-192-55).toNat,by omega⟩;rw[Ai p,show(x-192).toNat-55=k from by omega]at i;exact Lt g off n c d k x r w z F G u L v H A I j E.out (by omega) C R i
   ·obtain⟨m,s⟩:∃m:Nat,x-192=(m:Int):=⟨(x-192).toNat,by omega⟩;rw[Ae p,show(x-192).toNat=m from by omega]at i;have K:¬(55:Int)<x-192:=(by omega);have B:=Aa s;by_cases o:r.length+1-1<m
    ·rw[Ai o]at i;subst i;have D:(n:Int)-1<x-192:=(by omega);clear q p j l s o;go_enter func171,ntmps171;go_wp2_with fail;go_ret3;exact⟨rfl,Ac _ _⟩
    ·rw[Ae o]at i;subst i;have D:¬(n:Int)-1<x-192:=(by omega);clear q p j l s o;go_enter func171,ntmps171;go_wp2_with fail;go_ret3;exact⟨by simp[HR.f,HR.t,HR.e,B.out],Ac _ _⟩
  ·have P:128<=x:=(by omega);have q:nOf x=(x-128).toNat:=(by unfold nOf;rw[Ae u]);rw[q]at i;by_cases p:55<(x-128).toNat
   ·obtain⟨k,C⟩:∃k:Nat,x-128-55=(k:Int):=⟨(x-128-55).toNat,by omega⟩;rw[Ai p,show(x-128).toNat-55=k from by omega]at i;exact Lu g off n c d k x r w z F G u v H A I j E.out (by omega) C R i
   ·obtain⟨m,s⟩:∃m:Nat,x-128=(m:Int):=⟨(x-128).toNat,by omega⟩;rw[Ae p,show(x-128).toNat=m from by omega]at i;have K:¬(55:Int)<x-128:=(by omega);have B:=Aa s;by_cases o:r.length+1-1<m
    ·rw[Ai o]at i;subst i;have D:(n:Int)-1<x-128:=(by omega);clear q p j l s o;go_enter func171,ntmps171;go_wp2_with fail;go_ret3;exact⟨rfl,Ac _ _⟩
    ·rw[Ae o]at i;subst i;have D:¬(n:Int)-1<x-128:=(by omega);clear q p j l s o;go_enter func171,ntmps171;go_wp2_with fail;go_ret3;exact⟨by simp[HR.f,HR.t,HR.e,B.out],Ac _ _⟩
mutual
def LiesP(P:Θ)(w:Γ):T->V->Prop
 | .mk l bs its,x=>(x.l=l/\Ag w x.ba x.bn x.bc bs/\x.m=its.length/\x.m<=x.ic/\x.ic<=maxLen/\(x.bn<=140737488351232/\x.m<=140737488351232)/\(∀g off,x.ba=some ⟨g,off,none⟩->0<x.bn->P g/\∀o,w.frozen? ⟨g,o,none⟩=false))/\LiesPAll P w its x.ia 0
def LiesPAll(P:Θ)(w:Γ):List T->Ω->Θ
 |[],_,_=>True
 |t::r,a,k=>(∃g off y,(a=some ⟨g,off,none⟩/\P g)/\w.cell? ⟨g,off+k*3,none⟩=some (β y.l)/\w.cell? ⟨g,off+k*3+1,none⟩=some (σ y.ba y.bn y.bc)/\w.cell? ⟨g,off+k*3+2,none⟩=some (σ y.ia y.m y.ic)/\LiesP P w t y)/\LiesPAll P w r a (k+1)
end
theorem liesP_eq{l:Bool}{bs:τ}{its:List T}{x:V}:LiesP P w (.mk l bs its) x↔((x.l=l/\Ag w x.ba x.bn x.bc bs/\x.m=its.length/\x.m<=x.ic/\x.ic<=maxLen/\(x.bn<=140737488351232/\x.m<=140737488351232)/\(∀g off,x.ba=some ⟨g,off,none⟩->0<x.bn->P g/\∀o,w.frozen? ⟨g,o,none⟩=false))/\LiesPAll P w its x.ia 0):=by rw[LiesP]
theorem liesPAll_cons{t:T}{r:List T}:LiesPAll P w (t::r) a k↔((∃g off y,(a=some ⟨g,off,none⟩/\P g)/\w.cell? ⟨g,off+k*3,none⟩=some (β y.l)/\w.cell? ⟨g,off+k*3+1,none⟩=some (σ y.ba y.bn y.bc)/\w.cell? ⟨g,off+k*3+2,none⟩=some (σ y.ia y.m y.ic)/\LiesP P w t y)/\LiesPAll P w r a (k+1)):=by rw[LiesPAll]
theorem Dp:LiesPAll P w [] a k:=by rw[LiesPAll];trivial
theorem Ga{P:Θ}{w:Γ}{a:Ω}:∀{its:List T}{k:Nat},(∀t∈its,∀x,LiesP P w t x->Lies w t x)->LiesPAll P w its a k->LiesAll w its a k
 |[],_,_,_=>Ds
 |t::r,k,b,h=>by
  obtain⟨⟨g,off,y,⟨f,_⟩,c,l,d,i⟩,e⟩:=liesPAll_cons.1 h;exact liesAll_cons.2 ⟨⟨g,off,y,f,c,l,d,b t (C0 ..) y i⟩,Ga (λu j=>b u (Az _ j)) e⟩
theorem CS:∀t,∀x,LiesP P w t x->Lies w t x:=by
 refine T.ind λl bs its b x h=>?_;obtain⟨⟨e,c,i,d,g,a,_⟩,f⟩:=liesP_eq.1 h;exact lies_eq.2 ⟨e,c,i,d,g,a,Ga b f⟩
theorem NM{bs:τ}(h:Ag w a n c bs)(e:∀g off,a=some ⟨g,off,none⟩->0<n->g<w.heap.size->w'.heap[g]?=w.heap[g]?):Ag w' a n c bs:=by
 refine⟨?_,h.nil,h.l,h.b⟩;rcases h.i with o|⟨g,off,b,k,d,l,m,f⟩
 ·exact .inl o
 ·refine .inr ⟨g,off,b,k,d,l,m,λj i=>?_⟩;have:=f j i;exact(Av (w:=w) (e g off b d (Al this))).trans this
theorem DN{P Q:Θ}{w w':Γ}{a:Ω}(d:∀b,P b->b<w.heap.size->w'.heap[b]?=w.heap[b]?/\Q b):∀{its:List T}{k:Nat},(∀t∈its,∀x,LiesP P w t x->LiesP Q w' t x)->LiesPAll P w its a k->LiesPAll Q w' its a k
 |[],_,_,_=>Dp
 |t::r,k,e,h=>by
  obtain⟨⟨g,off,y,⟨m,i⟩,f,p,j,n⟩,l⟩:=liesPAll_cons.1 h;have c:=d g i (Al f);refine liesPAll_cons.2 ⟨⟨g,off,y,⟨m,c.2⟩,?_,?_,?_,e t (C0 ..) y n⟩,DN d (λu o=>e u (Az _ o)) l⟩
  ·exact(Av (w:=w) c.1).trans f
  ·exact(Av (w:=w) c.1).trans p
  ·exact(Av (w:=w) c.1).trans j
theorem BD{Q:Θ}(f:∀b,P b->b<w.heap.size->w'.heap[b]?=w.heap[b]?/\Q b):∀t,∀x,LiesP P w t x->LiesP Q w' t x:=by
 refine T.ind λl bs its n x h=>?_;obtain⟨⟨q,j,k,p,s,m,e⟩,r⟩:=liesP_eq.1 h;refine liesP_eq.2 ⟨⟨q,NM j (λg off c a d=>(f g (e g off c a).1 d).1),k,p,s,m,λg off c a=>?_⟩,DN f n r⟩;obtain⟨g',v,d,_,_,u⟩:=ag_head j a;rw[c]at d;cases d;have i:=f g (e g off c a).1 (Al (u 0 a));exact⟨i.2,λo=>(Cb (w:=w) i.1).trans ((e g off c a).2 o)⟩
def V.cells(y:V):List Δ:=[β y.l,σ y.ba y.bn y.bc,σ y.ia y.m y.ic]
def OwnI(w:Γ)(base:Nat)(v:Δ)(ys:List V):Prop:=w.ownsRow base 108 3 v ys.length (ys.flatMap V.cells)
theorem Gj(ys:List V):(ys.flatMap V.cells).length=ys.length*3:=by
 induction ys with
 |nil=>rfl
 |cons y r a=>rw[Cp,Af,a];simp[V.cells];omega
theorem ZV:∃i,prog.info? 108=some i/\i.zero=some (γ #[β false,ε,ε])/\i.size=3/\i.bytes=56:=by
 have h:(prog.info? 108).map (λi=>(i.zero,i.size,i.bytes))=some (some (γ #[β false,ε,ε]),3,56):=by kernel_rfl
 cases a:prog.info? 108 with
 |none=>rw[a]at h;simp at h
 |some i=>rw[a]at h;simp at h;exact⟨i,rfl,h.1,h.2.1,h.2.2⟩
theorem JM(y:V):∀u∈V.cells y,u.oneCell'=true:=by
 intro u a;simp[V.cells]at a;rcases a with rfl|rfl|rfl<;>rfl
theorem Jf{base:Nat}{v:Δ}{ys:List V}(k:OwnI w base v ys)(y:V)(ad:Addr)(c:Nat)(e:∀j u,(V.cells y)[j]?=some u->w.cell? (ad.add j)=some u)(q:base<=w.heap.size)(z:ys.length<=1000000000)(ty:TypeId):
 ∃v' w',(Builtin.append_ #[106,106] ty #[v,σ (some ad) 1 c]).run prog w= .ok v' w'/\OwnI w' base v' (ys++[y])/\w.grownBy w' v.ownBlock/\(v'.ownBlock=v.ownBlock∨v'.ownBlock=some w.heap.size):=by
 obtain⟨i,h,m,b,l⟩:=ZV;obtain⟨v',w',f,o,r,_⟩:=ET (P:=prog) w base 106 ty 108 i _ 3 56 υ106 h m b l rfl (by decide) v ys.length (ys.flatMap V.cells) k ad 1 c (V.cells y) rfl e (JM y) (by unfold maxLen;omega) (by omega) q;refine⟨v',w',f,?_,r,?_⟩
 ·unfold OwnI;rw[C7,Af];simpa using o
 ·rcases k.2 with⟨rfl,D⟩|⟨g,cap,cur,rfl,A,t,C,B,s,x⟩
  ·have a:=EU (P:=prog) w 106 ty 108 i _ υ106 h m ad 1 c (V.cells y) (by rw[b];rfl) e (by decide) (by decide) (by rw[l];decide);rw[f]at a;injection a with d n;right;rw[d];rfl
  ·by_cases p:ys.length+1<=cap
   ·have a:=EE (P:=prog) w 106 ty 108 i υ106 h g ys.length cap cur t ad 1 c (V.cells y) (by rw[b];rfl) e (JM y) p (by rw[s,b];simp[V.cells];omega);rw[f]at a;injection a with d n;left;rw[d];rfl
   ·have a:=EF (P:=prog) w 106 ty 108 i _ υ106 h m ⟨g,0,none⟩ ys.length cap (ys.flatMap V.cells) (by rw[b,Gj]) (DP k (g:=g) rfl) ad 1 c (V.cells y) (by rw[b];rfl) e (by omega) (by omega) (growslice_fits (by omega) (by rw[l];omega));rw[f]at a;injection a with d n;right;rw[d];rfl
end
end Go.Proofs.YtkdlocloepbmcaaGreat
