/- How many nodes a tree has: a Put adds three at most; no more are named than there are. -/
import Derived.Test.YtkdlocloepbmcaaGreatG24
import Derived.ProofKit
import Derived.OpenShut
import Derived.ShutString
import Derived.ChangeOld
import Derived.SizedLaws
import Derived.JoinedCond
set_option linter.unusedVariables false
set_option linter.unusedSimpArgs false
set_option maxRecDepth 100000
set_option maxHeartbeats 8000000
open Go.Proofs.Tryz Go.RowKit
namespace Go.Proofs.YtkdlocloepbmcaaGreat
namespace Tr
def sz:Tr->Nat
 |no=>0
 |leaf _ _=>1
 |ext _ c=>sz c+1
 |br k _=>((List.range 16).map λi=>sz (k i)).sum+1
theorem XL(k:Nat->Tr)(i:Nat)(t:Tr)(m:Nat)(h:sz t<=sz (k i)+m):∀n,((List.range n).map λj=>sz (upd k i t j)).sum<=((List.range n).map λj=>sz (k j)).sum+(if i<n then m else 0)
 |0=>by simp
 |n+1=>by
  have a:=XL k i t m h n;rw[CO,Bp,Bp,List.sum_append,List.sum_append];simp only[Bd,BY,List.sum_cons,List.sum_nil,Cz];by_cases e:n=i
  ·subst e;rw[Cs,Ai (by omega)];rw[Ae (by omega)]at a;omega
  ·rw[Cc k t e];by_cases b:i<n
   ·rw[Ai (by omega)];rw[Ai b]at a;omega
   ·rw[Ae (by omega)];rw[Ae b]at a;omega
theorem KY(k:Nat->Tr)(i:Nat)(t:Tr)(m:Nat)(x y:τ)(h:sz t<=sz (k i)+m):sz (br (upd k i t) x)<=sz (br k y)+m:=by
 have:=XL k i t m h 16;simp only[sz];split at this<;>omega
theorem Ml(p:τ)(t:Tr):sz (und p t)<=sz t+1:=by
 cases t with
 |no=>simp[und,sz]
 |leaf q v=>simp[und,sz]
 |ext q c=>simp[und,sz]
 |br k v=>
  simp only[und];split
  ·omega
  ·simp only[sz];omega
theorem Rx(k:Nat->Tr)(x q v:τ):sz (add k x q v)<=sz (br k x)+1:=by
 cases q with
 |nil=>simp only[add,sz];omega
 |cons i r=>exact KY k i.toNat (leaf r v) 1 x x (by simp only[sz];omega)
theorem ZI(t:Tr)(q v:τ):sz (addT t q v)<=sz t+1:=by
 cases t with
 |br k x=>exact Rx k x q v
 |no=>simp[addT]
 |leaf p x=>simp[addT]
 |ext p c=>simp[addT]
theorem Xah(x:τ):sz (br nk x)=1:=by
 simp only[sz];have:((List.range 16).map λi=>sz (nk i))=(List.range 16).map λ_=>0:=by simp[nk,sz]
 rw[this];rfl
theorem Xbk:∀(t:Tr)(q v:τ),sz (put t q v)<=sz t+3:=by
 intro t
 induction t with
 |no=>intro q v;simp[put,sz]
 |leaf p x=>
  intro q v;simp only[put];split
  ·simp[sz]
  ·have e:=Ml (q.take (Ni.com p q)) (addT (add nk [] (p.drop (Ni.com p q)) x) (q.drop (Ni.com p q)) v);have b:=ZI (add nk [] (p.drop (Ni.com p q)) x) (q.drop (Ni.com p q)) v;have g:=Rx nk [] (p.drop (Ni.com p q)) x;have d:=Xah [];have f:sz (leaf p x)=1:=rfl;omega
 |ext p c a=>
  intro q v;simp only[put];split
  ·have:=a (q.drop p.length) v;simp only[sz];omega
  ·have e:=Ml (q.take (Ni.com p q)) (add (upd nk (p.getD (Ni.com p q) 0).toNat (und (p.drop (Ni.com p q+1)) c)) [] (q.drop (Ni.com p q)) v);have b:=Rx (upd nk (p.getD (Ni.com p q) 0).toNat (und (p.drop (Ni.com p q+1)) c)) [] (q.drop (Ni.com p q)) v;have g:=KY nk (p.getD (Ni.com p q) 0).toNat (und (p.drop (Ni.com p q+1)) c) (sz c+1) [] [] (by have:=Ml (p.drop (Ni.com p q+1)) c;omega);have d:=Xah [];have f:sz (ext p c)=sz c+1:=rfl;omega
 |br k x a=>
  intro q v;cases q with
  |nil=>simp[put,sz]
  |cons i r=>exact KY k i.toNat (put (k i.toNat) r v) 3 x x (a i.toNat r v)
theorem XM(f g:Nat->Nat)(h:∀i,f i<=g i):∀l:List Nat,(l.map f).sum<=(l.map g).sum
 |[]=>Ab _
 |a::l=>by simp only[Bd,List.sum_cons];have:=h a;have:=XM f g h l;omega
theorem ST(b:τ):(nm1 b).length<=1:=by unfold nm1;split<;>simp
theorem ZJ:∀t:Tr,(nmd t).length+(if t.isNo then 0 else 1)<=sz t:=by
 intro t
 induction t with
 |no=>simp[nmd,isNo,sz]
 |leaf p x=>simp[nmd,isNo,sz]
 |ext p c b=>
  simp only[nmd,isNo,sz,Af,BG,Dm];have d:=ST (encT c);by_cases a:c.isNo=true
  ·rw[Ai a]at b;cases c with
   |no=>simp[encT,nm1,nmd,sz]
   |leaf p x=>simp[isNo]at a
   |ext p x=>simp[isNo]at a
   |br p x=>simp[isNo]at a
  ·rw[Ae a]at b;omega
 |br k x b=>
  rw[show(br k x).isNo=false from rfl];simp only[nmd,sz,BG,Dm,List.length_flatMap]
  have:=XM (λi=>(if(k i).isNo then[]else nmd (k i)++nm1 (encT (k i))).length) (λi=>sz (k i)) (λi=>by
   have d:=ST (encT (k i));have e:=b i;by_cases a:(k i).isNo=true
   ·simp[a]
   ·rw[Ae a]at e;simp only[a,BG,Dm,Af];omega) (List.range 16)
  omega
theorem O8(t:Tr):(nmd t).length<=sz t:=by have:=ZJ t;omega
end Tr
open Tr
theorem O9(t:Tr)(k x:τ):Tr.sz (putT t k x)<=Tr.sz t+3:=by
 unfold putT;split
 ·exact Xbk _ _ _
 ·omega
section
open Tr
variable {K : Nat → Prop} {w : World} {a : Option Addr} {n c gt gp gK gU : Nat} {vs : List (Value × Value)} {pt : Pa.Pt} {kn : Pa.Kn} {us : List (List Int)} {y : Opx}
def dsP(kn:Pa.Kn)(pt:Pa.Pt)(z:Int)(k x:τ):Pa.Pt:=if z=0 then(Pa.putQ kn pt k x).1 else if z=1 then(Pa.delQ kn pt k).1 else pt
def dsU(kn:Pa.Kn)(pt:Pa.Pt)(z:Int)(k x:τ)(us:List τ):List τ:=if z=0 then Pa.putU kn pt k x us else if z=1 then Pa.delU kn pt k us else Pa.getU kn pt k us
theorem XN{K':Θ}{l:PList}(h:PAt K w a n c vs l){ak:Ω}{nk ck:Nat}{k:τ}(b:Sk K' w ak nk ck k)(i:n<=2600000000000)(m:∀(j:Nat) k x,l[j]?=some (k,x)->k.length<=1000000)(t:Tr):
 κ 26 #[σ a n c,σ ak nk ck] w λu w'=>(∃s q c3 p o,u=θ #[σ s q c3,β p,ι (if k.length<=32 then 0 else 70)]/\Sk Pa.An w' s q c3 o/\(Rel t l->p=(if k.length<=32 then decide (Tr.get t (Ni.nib k)≠[])else false)/\o=GV t k))/\Bl w w':=by
 have B:=b.len;by_cases r:nk<=32
 ·cases f:isAt k l with
  |true=>
   refine(YP h b i m r f).mono ?_;rintro e w'⟨u,rfl,⟨z,A,c2,rfl,x,y,v⟩,g⟩;refine⟨_,rfl,⟨z,A,c2,true,x,by rw[Ai (by omega)],v.any,λd=>⟨?_,?_⟩⟩,g⟩
   ·rw[Ai (by omega),<-d.isAt b.ag.b (by omega)];exact f.symm
   ·unfold GV;rw[Ai (by omega)];exact((d.m k x).1 (AL y)).2.2.2.symm
  |false=>
   refine(Wy h b i m r f).mono ?_;rintro e w'⟨u,rfl,rfl,g⟩;refine⟨_,rfl,⟨none,0,0,false,[],by rw[Ai (by omega)],Sk.nil _ _,λd=>⟨?_,?_⟩⟩,g⟩
   ·rw[Ai (by omega),<-d.isAt b.ag.b (by omega)];exact f.symm
   ·unfold GV;rw[Ai (by omega)];have:=d.isAt b.ag.b (by omega);rw[f]at this;exact(Classical.not_not.1 (CU this.symm)).symm
 ·refine(TT h b i (by omega)).mono ?_;rintro e w'⟨u,rfl,rfl,g⟩;refine⟨_,rfl,⟨none,0,0,false,[],by rw[Ae (by omega)],Sk.nil _ _,λd=>⟨by rw[Ae (by omega)],?_⟩⟩,g⟩;unfold GV;rw[Ae (by omega)]
theorem XO{gr:Nat}{t:Tr}(h:Rec Pa.An w gr gt gp gK gU t pt kn us){l:PList}(d:PAt K w a n c vs l)(m:Sk Pa.An w y.ka y.kn y.kc y.k)(o:Sk Pa.An w y.va y.vn y.vc y.x)(G:n<=2600000000000)(v:∀(j:Nat) k x,l[j]?=some (k,x)->k.length<=1000000)(M:∀b,w.heap.size<=b->K b)(D:∀b,K b->¬RA gt gp gU b)(p:y.z=0):
 κ 9 #[π gr,σ a n c,γ #[ι y.z,σ y.ka y.kn y.kc,σ y.va y.vn y.vc]] w λu w'=>(λu w'=>(∃a' n' c' vs' s,u=θ #[σ a' n' c',β s]/\PAt K w' a' n' c' vs' (dsL l y.z y.k y.x)/\(Rel t l->s=true))/\Rec Pa.An w' gr gt gp gK gU (dsT t y.z y.k y.x) (dsP kn pt y.z y.k y.x) kn (dsU kn pt y.z y.k y.x us)/\Ts (RA gt gp gU) w w') u w':=by
 have e:=Bl.refl w;have X:=h;have S:=h.lt;refine Ck func9 101<|Hn 2 (#[ι y.z,σ y.ka y.kn y.kc,σ y.va y.vn y.vc]) 34 ?_;intro w1 L i f;have T:w.heap.size<=L:=by have:=i.hg;omega
 replace e:=e.go i.below;have V:=e.size;refine Hl 8 f 0 3 (ι y.z)<|Hb 5 ((y.z:Int)==(0:Int)) true (Ee.2 p)<|Hl 8 f 1 32 (σ y.ka y.kn y.kc)<|Hl 1 f 2 32 (σ y.va y.vn y.vc) ?_;replace d:=d.go i.below;replace m:=m.go i.below;replace o:=o.go i.below;refine Hc 0 (R:=λu w'=>(∃a n c vs,u=θ #[σ a n c,ι (putE y.k y.x)]/\PAt (λb=>K b∨(w1).heap.size<=b) w' a n c vs (putL l y.k y.x))/\Bl (w1) w') ((Po d m G o v)) ?_;rintro _ N⟨⟨z,E,F,P,rfl,H⟩,g⟩;have O:=e.size;replace d:=d.go g;replace d:=H.mono (λb J=>J.elim id (λq=>M b (by omega)));replace f:=f.go g;refine Hl 12 f 1 32 (σ y.ka y.kn y.kc)<|Hl 1 f 2 32 (σ y.va y.vn y.vc) ?_;replace e:=e.go g;have Q:=e.size;replace h:=(h.go i.below).go g;replace m:=m.go g;replace o:=o.go g;refine Hc 0 (R:=λu w'=>u=ι (putE y.k y.x)/\Rec Pa.An w' gr gt gp gK gU (putT t y.k y.x) (Pa.putQ kn pt y.k y.x).1 kn (Pa.putU kn pt y.k y.x us)/\Ts (RA gt gp gU) (N) w') ((Xbi h m o (λ_ _=>trivial))) ?_;rintro _ W⟨rfl,I,r⟩;have U:=r.size;have C:=e;have B:=(Ts.of_below (A:=RA gt gp gU) C).trans r;refine Hb 1 ((putE y.k y.x:Int)==(putE y.k y.x:Int)) true (DX _) ?_;replace d:=d.ts r D;exact Hr 7 (θ #[σ z E F,β true]) ⟨_,rfl,⟨_,_,_,_,_,rfl,by rw[show dsL l y.z y.k y.x=putL l y.k y.x from Ai p];exact d,λ_=>rfl⟩,by rw[show dsT t y.z y.k y.x=putT t y.k y.x from Ai p,show dsP kn pt y.z y.k y.x=(Pa.putQ kn pt y.k y.x).1 from Ai p,show dsU kn pt y.z y.k y.x us=Pa.putU kn pt y.k y.x us from Ai p];exact I,B⟩
theorem XP{gr:Nat}{t:Tr}(h:Rec Pa.An w gr gt gp gK gU t pt kn us){l:PList}(m:PAt K w a n c vs l)(g:Sk Pa.An w y.ka y.kn y.kc y.k)(hx:Sk Pa.An w y.va y.vn y.vc y.x)(V:n<=2600000000000)(P:∀(j:Nat) k x,l[j]?=some (k,x)->k.length<=1000000)(Y:∀b,w.heap.size<=b->K b)(S:∀b,K b->¬RA gt gp gU b)(i:y.z=1):
 κ 9 #[π gr,σ a n c,γ #[ι y.z,σ y.ka y.kn y.kc,σ y.va y.vn y.vc]] w λu w'=>(λu w'=>(∃a' n' c' vs' M,u=θ #[σ a' n' c',β M]/\PAt K w' a' n' c' vs' (dsL l y.z y.k y.x)/\(Rel t l->M=true))/\Rec Pa.An w' gr gt gp gK gU (dsT t y.z y.k y.x) (dsP kn pt y.z y.k y.x) kn (dsU kn pt y.z y.k y.x us)/\Ts (RA gt gp gU) w w') u w':=by
 have D:=Bl.refl w;have h0:=h;have ad:=h.lt;obtain⟨s,L⟩:∃z:Int,(if y.k.length<=32 then(0:Int)else 70)=z:=⟨_,rfl⟩;obtain⟨d,H⟩:∃b,(if y.k.length<=32 then decide (Tr.get t (Ni.nib y.k)≠[])else false)=b:=⟨_,rfl⟩;obtain⟨f,I⟩:∃b,(if y.k.length<=32 then isAt y.k l else false)=b:=⟨_,rfl⟩;refine Ck func9 101<|Hn 2 (#[ι y.z,σ y.ka y.kn y.kc,σ y.va y.vn y.vc]) 34 ?_;intro w1 N B v;have T:w.heap.size<=N:=by have:=B.hg;omega
 replace D:=D.go B.below;have U:=D.size;refine Hl 8 v 0 3 (ι y.z)<|Hz 5 (y.z:Int) (0:Int)<|Hb 6 ((y.z:Int)==(1:Int)) true (Ee.2 i)<|Hl 8 v 1 32 (σ y.ka y.kn y.kc) ?_;have ac:=D.size;replace h:=h.go B.below;replace g:=g.go B.below;refine Hc 0 (R:=λu w'=>u=θ #[β d,ι s]/\Rec Pa.An w' gr gt gp gK gU (delT t y.k) (Pa.delQ kn pt y.k).1 kn (Pa.delU kn pt y.k us)/\Ts (RA gt gp gU) (w1) w') ((by have:=Xbj h g (λ_ _=>trivial);rw[H,L]at this;exact this)) ?_;rintro _ O⟨rfl,r,C⟩;have ae:=C.size;have Q:=D;have o:=(Ts.of_below (A:=RA gt gp gU) Q).trans C;refine Hp 0 (θ #[β d,ι s])<|Hp 0 (β d)<|Hp 1 (β d) ?_;replace v:=v.ts C (by have:=U;have af:w.heap.size<=N:=T;unfold RA;omega);refine Hl 7 v 1 32 (σ y.ka y.kn y.kc) ?_;replace m:=(m.go B.below).ts C S;replace g:=g.ts C;refine Hc 0 (R:=λu w'=>(∃a n c vs,u=θ #[σ a n c,β f,ι s]/\PAt (λb=>K b∨(O).heap.size<=b) w' a n c vs (delL l y.k))/\Bl (O) w') (((WU m g V P).mono (λe w'⟨u,e1,⟨a,n,c,vs,Z,e3⟩,e4⟩=>⟨u,e1,⟨a,n,c,vs,by rw[Z,I,L],e3⟩,e4⟩))) ?_;rintro _ u6⟨⟨E,F,G,ab,rfl,W⟩,p⟩;have aa:=o.size;replace m:=m.go p;replace m:=W.mono (λb X=>X.elim id (λq=>Y b (by omega)));refine Hp 0 (θ #[σ E F G,β f,ι s])<|Hp 1 (β f)<|Hp 2 (β f)<|Hp 6 (β d)<|Hp 0 (β f)<|Hx 0 (og f9 8 3) (β (d==f)) (λ_=>UZ 4 _ _ _ d f rfl (by kernel_rfl) (by kernel_rfl) rfl)<|Hp 0 (β (d==f)) ?_;cases J:(d==f)with
 |true=>
  refine Hb 2 ((s:Int)==(s:Int)) true (DX _) ?_;replace o:=o.trans (Ts.of_below p);replace r:=r.go p;exact Hr 8 (θ #[σ E F G,β true]) ⟨_,rfl,⟨_,_,_,_,_,rfl,by rw[show dsL l y.z y.k y.x=delL l y.k from(Ae (by omega)).trans (Ai i)];exact m,λ_=>rfl⟩,by rw[show dsT t y.z y.k y.x=delT t y.k from(Ae (by omega)).trans (Ai i),show dsP kn pt y.z y.k y.x=(Pa.delQ kn pt y.k).1 from(Ae (by omega)).trans (Ai i),show dsU kn pt y.z y.k y.x us=Pa.delU kn pt y.k us from(Ae (by omega)).trans (Ai i)];exact r,o⟩
 |false=>
  replace g:=g.go p;replace o:=o.trans (Ts.of_below p);replace r:=r.go p;exact Hr 11 (θ #[σ E F G,β false]) ⟨_,rfl,⟨_,_,_,_,_,rfl,by rw[show dsL l y.z y.k y.x=delL l y.k from(Ae (by omega)).trans (Ai i)];exact m,λhR=>by have q:d=f:=(by rw[<-H,<-I];split;exact(hR.isAt g.ag.b (by assumption)).symm;rfl);rw[q,DX]at J;cases J⟩,by rw[show dsT t y.z y.k y.x=delT t y.k from(Ae (by omega)).trans (Ai i),show dsP kn pt y.z y.k y.x=(Pa.delQ kn pt y.k).1 from(Ae (by omega)).trans (Ai i),show dsU kn pt y.z y.k y.x us=Pa.delU kn pt y.k us from(Ae (by omega)).trans (Ai i)];exact r,o⟩
theorem XQ{gr:Nat}{t:Tr}(h:Rec Pa.An w gr gt gp gK gU t pt kn us){l:PList}(r:PAt K w a n c vs l)(D:Sk Pa.An w y.ka y.kn y.kc y.k)(hx:Sk Pa.An w y.va y.vn y.vc y.x)(ae:n<=2600000000000)(Z:∀(j:Nat) k x,l[j]?=some (k,x)->k.length<=1000000)(hK:∀b,w.heap.size<=b->K b)(ab:∀b,K b->¬RA gt gp gU b)(d:y.z≠0/\y.z≠1):
 κ 9 #[π gr,σ a n c,γ #[ι y.z,σ y.ka y.kn y.kc,σ y.va y.vn y.vc]] w λu w'=>(λu w'=>(∃a' n' c' vs' W,u=θ #[σ a' n' c',β W]/\PAt K w' a' n' c' vs' (dsL l y.z y.k y.x)/\(Rel t l->W=true))/\Rec Pa.An w' gr gt gp gK gU (dsT t y.z y.k y.x) (dsP kn pt y.z y.k y.x) kn (dsU kn pt y.z y.k y.x us)/\Ts (RA gt gp gU) w w') u w':=by
 have M:=Bl.refl w;have h0:=h;have ah:=h.lt;obtain⟨I,U⟩:∃z:Int,(if y.k.length<=32 then(0:Int)else 70)=z:=⟨_,rfl⟩;refine Ck func9 101<|Hn 2 (#[ι y.z,σ y.ka y.kn y.kc,σ y.va y.vn y.vc]) 34 ?_;intro w1 X F E;have ac:w.heap.size<=X:=by have:=F.hg;omega
 replace M:=M.go F.below;have ad:=M.size;refine Hl 8 E 0 3 (ι y.z)<|Hb 5 ((y.z:Int)==(0:Int)) false (Bo.2 d.1)<|Hb 6 ((y.z:Int)==(1:Int)) false (Bo.2 d.2)<|Hl 11 E 1 32 (σ y.ka y.kn y.kc) ?_;have af:=M.size;replace h:=h.go F.below;replace D:=D.go F.below;refine Hc 0 (R:=λu w'=>(∃L N c2 o O,u=θ #[σ L N c2,β o,ι O]/\(o=(if y.k.length<=32 then decide (Tr.get t (Ni.nib y.k)≠[])else false)/\O=if y.k.length<=32 then 0 else 70)/\Sk Pa.An w' L N c2 (GV t y.k))/\Rec Pa.An w' gr gt gp gK gU t pt kn (Pa.getU kn pt y.k us)/\Ts (RA gt gp gU) (w1) w') (((XJ h D (λ_ _=>trivial)).mono (λe w' q=>q))) ?_;rintro _ u5⟨⟨L,N,c2,o,O,rfl,V,f⟩,C,G⟩;have ai:=G.size;have aa:=M;have B:=(Ts.of_below (A:=RA gt gp gU) aa).trans G;rw[U]at V;obtain⟨Y,Q⟩:=V;rw[Q];clear Q;refine Hp 0 (θ #[σ L N c2,β o,ι I])<|Hp 1 (β o)<|Hp 2 (β o) ?_;replace E:=E.ts G (by have:=ad;have aj:w.heap.size<=X:=ac;unfold RA;omega);refine Hl 7 E 1 32 (σ y.ka y.kn y.kc) ?_;replace r:=(r.go F.below).ts G ab;replace D:=D.ts G;refine Hc 0 (R:=λu w'=>(∃J H c3 m p,u=θ #[σ J H c3,β m,ι I]/\Sk Pa.An w' J H c3 p/\(Rel t l->m=(if y.k.length<=32 then decide (Tr.get t (Ni.nib y.k)≠[])else false)/\p=GV t y.k))/\Bl (u5) w') (((XN r D ae Z t).mono (λe w' q=>by rw[U]at q;exact q))) ?_;rintro _ u6⟨⟨J,H,c3,m,p,rfl,g,S⟩,s⟩;refine Hp 0 (θ #[σ J H c3,β m,ι I])<|Hp 1 (β m)<|Hp 2 (β m) ?_;replace f:=f.go s;refine Fq 4 (λv=>Sk Pa.An v L N c2 (GV t y.k)/\Sk Pa.An v J H c3 p) (⟨f.drew,g.drew⟩) ?_;replace f:=f.go (Ac _ _).drew;replace g:=g.go (Ac _ _).drew;refine Dx [0] 1 (og f9 11 1) (β o) (λv i _=>by kernel_rfl) ⟨f,g⟩<|Dx [] 2 (og f9 11 2) (β m) (λv i _=>by kernel_rfl) ⟨f,g⟩<|Dx [] 3 (og f9 11 3) (β (o==m)) (λv i _=>UZ 4 _ _ _ o m rfl (by kernel_rfl) (by kernel_rfl) rfl) ⟨f,g⟩<|Dx [] 4 (og f9 11 4) (β (o==m)) (λv i _=>by kernel_rfl) ⟨f,g⟩ ?_;cases T:(o==m)with
 |true=>
  refine Dx [5,6] 7 (og f9 11 7) (β true) (λv i=>(λ_=>E1 (v:=β ((I:Int)==(I:Int))) (by kernel_rfl) (Ao β (DX _)))) ⟨f,g⟩<|Dx [8,9,10] 11 (og f9 11 11) (.string (strOfNums (GV t y.k))) (λv i _=>i.1.run_str _ _ _ rfl (by kernel_rfl)) ⟨f,g⟩<|Dx [12] 13 (og f9 11 13) (.string (strOfNums p)) (λv i _=>i.2.run_str _ _ _ rfl (by kernel_rfl)) ⟨f,g⟩<|Dx [] 14 (og f9 11 14) (β (decide (GV t y.k=p))) (λv i _=>Qj 9 _ _ _ _ _ rfl (by kernel_rfl) (by kernel_rfl) (N5 i.1.ag.b i.2.ag.b)) ⟨f,g⟩<|Dx [] 15 (og f9 11 15) (β (decide (GV t y.k=p))) (λv i _=>by kernel_rfl) ⟨f,g⟩<|Dx [16] 17 (og f9 11 17) (β (decide (GV t y.k=p))) (λv i _=>by kernel_rfl) ⟨f,g⟩<|Do ?_;replace r:=(r.go s).go (Ac _ _).drew;replace B:=(B.trans (Ts.of_below s)).trans (Ts.of_below (Ac _ _).drew);replace C:=(C.go s).go (Ac _ _).drew;exact Hr 2 (θ #[σ a n c,β (decide (GV t y.k=p))]) ⟨_,rfl,⟨_,_,_,_,_,rfl,by rw[show dsL l y.z y.k y.x=l from(Ae d.1).trans (Ae d.2)];exact r,λP=>AF (S P).2.symm⟩,by rw[show dsT t y.z y.k y.x=t from(Ae d.1).trans (Ae d.2),show dsP kn pt y.z y.k y.x=pt from(Ae d.1).trans (Ae d.2),show dsU kn pt y.z y.k y.x us=Pa.getU kn pt y.k us from(Ae d.1).trans (Ae d.2)];exact C,B⟩
 |false=>
  refine Dq [5,6,7,8,9,10,11,12,13,14,15,16,17] ⟨f,g⟩ ?_;replace r:=(r.go s).go (Ac _ _).drew;replace B:=(B.trans (Ts.of_below s)).trans (Ts.of_below (Ac _ _).drew);replace C:=(C.go s).go (Ac _ _).drew;exact Hr 2 (θ #[σ a n c,β false]) ⟨_,rfl,⟨_,_,_,_,_,rfl,by rw[show dsL l y.z y.k y.x=l from(Ae d.1).trans (Ae d.2)];exact r,λP=>by have q:o=m:=(by rw[Y,(S P).1]);rw[q,DX]at T;cases T⟩,by rw[show dsT t y.z y.k y.x=t from(Ae d.1).trans (Ae d.2),show dsP kn pt y.z y.k y.x=pt from(Ae d.1).trans (Ae d.2),show dsU kn pt y.z y.k y.x us=Pa.getU kn pt y.k us from(Ae d.1).trans (Ae d.2)];exact C,B⟩
theorem XR{gr:Nat}{t:Tr}(h:Rec Pa.An w gr gt gp gK gU t pt kn us){l:PList}(i:PAt K w a n c vs l)(g:Sk Pa.An w y.ka y.kn y.kc y.k)(o:Sk Pa.An w y.va y.vn y.vc y.x)(e:n<=2600000000000)(d:∀(j:Nat) k x,l[j]?=some (k,x)->k.length<=1000000)(m:∀b,w.heap.size<=b->K b)(f:∀b,K b->¬RA gt gp gU b):
 κ 9 #[π gr,σ a n c,γ #[ι y.z,σ y.ka y.kn y.kc,σ y.va y.vn y.vc]] w λu w'=>(λu w'=>(∃a' n' c' vs' q,u=θ #[σ a' n' c',β q]/\PAt K w' a' n' c' vs' (dsL l y.z y.k y.x)/\(Rel t l->q=true))/\Rec Pa.An w' gr gt gp gK gU (dsT t y.z y.k y.x) (dsP kn pt y.z y.k y.x) kn (dsU kn pt y.z y.k y.x us)/\Ts (RA gt gp gU) w w') u w':=by
 by_cases r:y.z=0
 ·exact XO h i g o e d m f r
 ·by_cases p:y.z=1
  ·exact XP h i g o e d m f p
  ·exact XQ h i g o e d m f ⟨r,p⟩
end
section
open Tr
open Di (dref)
variable {w : World} {K : Nat → Prop} {gt gp gK gU : Nat}
namespace Tr
theorem lastN_lt(k:Nat->Tr):∀n,0<n->lastN k n<n
 |0,h=>by omega
 |n+1,_=>by
  simp only[lastN];split
  ·rcases Nat.eq_zero_or_pos n with e|e
   ·subst e;simp[lastN]
   ·have:=lastN_lt k n e;omega
  ·omega
theorem XS(k:Nat->Tr):∀n i,i<n->sz (k i)<=((List.range n).map λj=>sz (k j)).sum
 |0,i,h=>by omega
 |n+1,i,h=>by
  rw[CO,Bp,List.sum_append];simp only[Bd,BY,List.sum_cons,List.sum_nil,Cz];by_cases e:i=n
  ·subst e;omega
  ·have:=XS k n i (by omega);omega
theorem XT(k:Nat->Tr)(x y:τ):sz (nrm k x)<=sz (br k y):=by
 unfold nrm;split
 ·simp only[sz];omega
 ·split
  ·have a:=Ml [(lastN k 16:Int)] (k (lastN k 16));have b:=XS k 16 _ (lastN_lt k 16 (by omega));simp only[sz]at a b⊢;omega
  ·simp only[sz];omega
theorem Xbl:∀(t:Tr)(q:τ),sz (del t q)<=sz t:=by
 intro t
 induction t with
 |no=>intro q;simp[del,sz]
 |leaf p x=>intro q;simp[del,sz]
 |ext p c a=>
  intro q;have b:=Ml p (del c (q.drop p.length));have d:=a (q.drop p.length);simp only[del,sz]at b⊢;omega
 |br k x a=>
  intro q;cases q with
  |nil=>exact XT k [] x
  |cons i r=>
   simp only[del];exact Au (XT _ x x) (KY k i.toNat _ 0 x x (a i.toNat r))
end Tr
theorem SU(t:Tr)(k:τ):Tr.sz (delT t k)<=Tr.sz t:=by
 unfold delT;split
 ·exact Xbl _ _
 ·omega
theorem Qf(k:τ):∀l:PList,(delR k l).length<=l.length
 |[]=>by simp[delR]
 |e::r=>by
  have:=Qf k r;simp only[delR];split
  ·simp;omega
  ·split<;>simp
theorem XU(l:PList)(k:τ):(delL l k).length<=l.length:=by
 unfold delL;split
 ·exact Qf k l
 ·omega
theorem Xbm(t:Tr)(z:Int)(k x:τ):Tr.sz (dsT t z k x)<=Tr.sz t+3:=by
 unfold dsT;split
 ·exact O9 t k x
 ·split
  ·have:=SU t k;omega
  ·omega
theorem ZK(l:PList)(z:Int)(k x:τ):(dsL l z k x).length<=l.length+1:=by
 unfold dsL;split
 ·exact Pl l k x
 ·split
  ·have:=XU l k;omega
  ·omega
theorem Bl.ts{A:Θ}{v v':Γ}(h:Bl w v)(c:Ts A v v')(a:∀b,A b->w.heap.size<=b):Bl w v':=c.below h a
namespace Pa
def LB:τ:=[196,130,32,97,1]
theorem XbE:¬dref LB=dref [128]:=λh=>absurd (Ao (λl:τ=>l.getD 0 0) h) (by decide+kernel)
theorem al_top:topP (dref LB)=Pt.st (dref LB):=by unfold topP;rw[Ae XbE]
theorem XbF:ND LB=some ⟨1,[6,1],[1],r0,[]⟩:=by kernel_rfl
theorem XbG:TH ⟨1,[6,1],[1],r0,[]⟩=Pt.leaf [6,1] [1]:=by unfold TH thG;rfl
theorem al_kn:knP [LB] []=[(dref LB,Pt.leaf [6,1] [1])]:=by
 rw[Qa];simp only[findK,XbF,XbG];rfl
theorem al_gu(d:τ):getU [(d,Pt.leaf [6,1] [1])] (Pt.st d) [98] []=[d]:=by
 have a:Ni.nib [98]=[6,2]:=by kernel_rfl
 simp[getU,wkU,lkU,lookP,findK,Pt.fitP,nextP,Pt.isBr,useP,findI]
end Pa
theorem XbR:putT no [97] [1]=leaf [6,1] [1]:=by kernel_rfl
theorem XbH:rootP (leaf [6,1] [1])=dref Pa.LB:=by unfold rootP;rw[Ae (by decide),show encT (leaf [6,1] [1])=Pa.LB from by kernel_rfl]
theorem XbI:nodesP (leaf [6,1] [1])=[Pa.LB]:=by kernel_rfl
theorem Ry{a:Ω}{n c:Nat}{ac:List (Δ×Δ)}{l0:PList}(W:PAt K w a n c ac l0)(hn:n<=1048576):
 κ 6 #[σ a n c] w λu w'=>(λu w'=>(∃m B C A I T M,u=θ #[π m,σ B C A]/\w.heap.size<=m/\Tri Pa.An w' m T/\PAt Pa.An w' B C A I M/\Rel T M/\Tr.sz T<=3*n/\M.length<=n)/\Bl w w') u w':=by
 have d:=Bl.refl w;refine Ck func6 43<|Hc 8 (R:=λu w'=>(∃g,u=π g/\(w).heap.size<=g/\Tri Pa.An w' g no)/\Bl (w) w') ((new_any (K:=Pa.An))) ?_;rintro _ u1⟨⟨m,rfl,E,e⟩,Z⟩;replace d:=d.go Z;refine Ho (X:=Nat×Tr×PList×Ω×Nat×Nat) 17 (λz=>[(10,ι ((z.1:Nat):Int)),(9,ι n),(0,σ a n c),(4,π m),(5,σ z.2.2.2.1 z.2.2.2.2.1 z.2.2.2.2.2)]) (λz v=>Bl w v/\Tri Pa.An v m z.2.1/\(∃vs,PAt Pa.An v z.2.2.2.1 z.2.2.2.2.1 z.2.2.2.2.2 vs z.2.2.1)/\Rel z.2.1 z.2.2.1/\z.1<=n/\Tr.sz z.2.1<=3*z.1/\z.2.2.1.length<=z.1) (λz=>n-z.1) (0,no,[],none,0,0) ⟨d,e,⟨_,PAt.empty _ _⟩,Rel.nil,A8 _,by simp[Tr.sz],Ab _⟩ ?_;clear d e;rintro⟨j,t,l,B,C,A⟩ v⟨d,e,⟨I,f⟩,r,hj,N,G⟩ I1 Y;simp only at d e f r hj N G;by_cases q:j<n
 ·skip
  obtain⟨p,o,P,Q,c1,O,S,c2,k1,x1,ea,ah,y,s,D,L⟩:=W.at q;subst ea;refine Ht 2 ((j:Int)<(n:Int))<|Fq 15 (λv=>Bl w v) (d.drew) ?_;replace d:=d.drew;refine Dx [0,1,2] 3 (og f6 6 3) (ψ p (o+j*2)) (λv i _=>AW 22 _ _ p o j n c 2 55 rfl (by kernel_rfl) (by kernel_rfl) q υ22 (by kernel_rfl)) d<|Dx [4] 5 (og f6 6 5) (σ P Q c1) (λv i _=>AY 32 _ _ _ _ rfl (by kernel_rfl) ((Ca i (Al y)).trans y) υ32 rfl) d<|Dx [6,7] 8 (og f6 6 8) (ψ p (o+j*2)) (λv i _=>AW 22 _ _ p o j n c 2 55 rfl (by kernel_rfl) (by kernel_rfl) q υ22 (by kernel_rfl)) d<|Dx [9] 10 (og f6 6 10) (σ O S c2) (λv i _=>AY 32 _ _ _ _ rfl (by kernel_rfl) ((Ca i (Al s)).trans s) υ32 rfl) d<|Dz [11] ?_;replace e:=e.drew;refine Yc 11 (R:=λu w'=>u=ι (putE k1 x1)/\Tri Pa.An w' m (putT t k1 x1)/\Touch m (v.drew) w') ((Ju e (D.go d) (L.go d) (λ_ _=>trivial))) (λu w' h=>h.2.2.below d E d.size) ?_ yn;rintro _ F⟨rfl,V,H⟩;replace f:=f.drew;replace f:=f.touch H e;replace d:Bl w F:=H.below d E d.size;replace e:=V;refine Do<|Fq 1 (λv=>Bl w v) (d.drew) ?_;replace d:=d.drew;refine Dx [0,1,2] 3 (og f6 7 3) (ψ p (o+j*2)) (λv i _=>AW 22 _ _ p o j n c 2 55 rfl (by kernel_rfl) (by kernel_rfl) q υ22 (by kernel_rfl)) d<|Dx [4] 5 (og f6 7 5) (σ P Q c1) (λv i _=>AY 32 _ _ _ _ rfl (by kernel_rfl) ((Ca i (Al y)).trans y) υ32 rfl) d<|Dx [6,7] 8 (og f6 7 8) (ψ p (o+j*2)) (λv i _=>AW 22 _ _ p o j n c 2 55 rfl (by kernel_rfl) (by kernel_rfl) q υ22 (by kernel_rfl)) d<|Dx [9] 10 (og f6 7 10) (σ O S c2) (λv i _=>AY 32 _ _ _ _ rfl (by kernel_rfl) ((Ca i (Al s)).trans s) υ32 rfl) d<|Dz [11] ?_;replace f:=f.drew;refine Yc 11 (R:=λu w'=>(∃a n c vs,u=θ #[σ a n c,ι (putE k1 x1)]/\PAt (λb=>Pa.An b∨(F.drew).heap.size<=b) w' a n c vs (putL l k1 x1))/\Bl (F.drew) w') ((Po f (D.go d) (by have:=f.ll;omega) (L.go d) r.klen)) (λu w' h=>d.go h.2) ?_ yn;rintro _ u4⟨⟨U,aa,ab,ae,rfl,ad⟩,J⟩;replace f:=ad.mono (λb _=>(trivial:Pa.An b));replace d:=d.go J;refine Dq [12,13,14,15] d<|Hi 3 ((j:Int)+1) ((j:Int)+1) ?_;have ai:=O9 t k1 x1;have af:=Pl l k1 x1;replace e:=e.drew.go J;exact Y 2 (j+1,putT t k1 x1,putL l k1 x1,U,aa,ab) ⟨d,e,⟨_,f⟩,r.put (k:=k1) (x:=x1) D.ag.b,by omega,by show Tr.sz (putT t k1 x1)<=3*(j+1);omega,by show(putL l k1 x1).length<=j+1;omega⟩ (by show n-(j+1)<n-j;omega) (λ_=>by kernel_rfl)
 obtain rfl:j=n:=by omega
 refine Hf 2 ((j:Int)<(j:Int)) ?_;exact Hr 18 (θ #[π m,σ B C A]) ⟨_,rfl,⟨m,_,_,_,_,t,l,rfl,E,e,f,r,N,G⟩,d⟩
theorem Rz:
 κ 5 #[] w λu w'=>(λu w'=>u=β true/\Bl w w') u w':=by
 have a:=Bl.refl w;have N:=Ix (leaf [6,1] [1]);obtain⟨ds,i⟩:∃ds,rootP (leaf [6,1] [1])=ds:=⟨_,rfl⟩;have ao:ds.length=32:=by rw[<-i];exact N
 have r:ds=dref Pa.LB:=by rw[<-i];exact XbH
 refine Ck func5 58<|Hc 7 (R:=λu w'=>(∃g,u=π g/\(w).heap.size<=g/\Tri Pa.An w' g no)/\Bl (w) w') ((new_any (K:=Pa.An))) ?_;rintro _ u1⟨⟨z,rfl,ah,f⟩,am⟩;refine M6 16 #[η 97] 5 1 ?_;intro w3 af Z _;obtain⟨w6,aj,F,s⟩:=Sr (x:=97) (by omega) Z (K:=Pa.An) (λ_ _=>trivial);refine Hx 0 (og f5 4 2) (σ (ζ af 0) 1 1) (λ_=>aj _ _ _ rfl (by kernel_rfl))<|M6 0 #[η 1] 5 1 ?_;intro G ac k _;replace a:=(a.go am).go F;have ap:=a.size;have Y:Sk Pa.An G (ζ ac 0) 1 1 [1]:=N9 (by omega) k (λ_ _=>trivial);replace f:=(f.go F).go k.below;replace s:=s.go k.below;refine Hc 0 (R:=λu w'=>u=ι (putE [97] [1])/\Tri Pa.An w' z (putT no [97] [1])/\Touch z (G) w') ((Ju f s Y (λ_ _=>trivial))) ?_;rintro _ h⟨rfl,ab,ad⟩;replace a:=a.go k.below;replace a:Bl w h:=ad.below a ah a.size;replace f:Tri Pa.An h z (leaf [6,1] [1]):=by rw[<-XbR];exact ab
 refine Hc 5 (R:=λu w'=>(∃gr gt gp gK gU,u=π gr/\Rec Pa.An w' gr gt gp gK gU (leaf [6,1] [1]) (Pa.topP (rootP (leaf [6,1] [1]))) (Pa.knP (nodesP (leaf [6,1] [1])) []) []/\(h).heap.size<=gr/\(h).heap.size<=gt/\(h).heap.size<=gp/\(h).heap.size<=gK/\(h).heap.size<=gU)/\Bl (h) w') ((XK f (by decide))) ?_;rintro _ L⟨⟨gr,gt,gp,gK,gU,rfl,c,a1,bc,ay,a0,a6⟩,C⟩;have aq:=f.lt;have a4:=a.size;have I:Rec Pa.An L gr gt gp gK gU (leaf [6,1] [1]) (.st ds) [(ds, .leaf [6,1] [1])] []:=by rw[<-i]at r;rw[XbI,r,Pa.al_top,Pa.al_kn]at c;rw[<-i,r];exact c
 replace c:=I;clear I;refine Hc 16 (R:=Pa.RUs (L) (([]:List τ).map (Pa.usB [(ds, .leaf [6,1] [1])]))) ((Qe c (λd hd=>by cases hd) (by simp))) ?_;rintro _ aw⟨⟨a9,al,bb,az,rfl,U,W,av⟩,n⟩;obtain rfl:al=0:=by have h9:=U.len;have j:=W.length_eq;rw[AQ]at j;simp only[BV]at j;omega
 refine M6 6 #[η 98] 5 1 ?_;intro a8 Q S _;obtain⟨ai,V,p,T⟩:=Sr (x:=98) (by omega) S (K:=Pa.An) (λ_ _=>trivial);refine Hx 0 (og f5 9 2) (σ (ζ Q 0) 1 1) (λ_=>V _ _ _ rfl (by kernel_rfl)) ?_;replace c:=(c.go n).go p;refine Hc 0 (R:=λu w'=>(∃y B c2 m l,u=θ #[σ y B c2,β m,ι l]/\GIs (leaf [6,1] [1]) [98] m l/\Sk Pa.An w' y B c2 (GV (leaf [6,1] [1]) [98]))/\Rec Pa.An w' gr gt gp gK gU (leaf [6,1] [1]) (.st ds) [(ds, .leaf [6,1] [1])] (Pa.getU [(ds, .leaf [6,1] [1])] (.st ds) [98] [])/\Ts (RA gt gp gU) (ai) w') ((XJ c T (λ_ _=>trivial))) ?_;rintro _ H⟨⟨y,B,c2,m,l,rfl,M,ax⟩,J,E⟩;replace c:Rec Pa.An H gr gt gp gK gU (leaf [6,1] [1]) (.st ds) [(ds, .leaf [6,1] [1])] [ds]:=by rw[Pa.al_gu]at J;exact J
 replace a:=((a.go C).go n).go p;replace a:=Bl.ts a E (λb hb=>by rcases hb with q|q|q<;>omega);obtain⟨rfl,rfl⟩:m=false/\l=0:=⟨by rw[M.1];decide+kernel,by rw[M.2];decide⟩;refine Hc 12 (R:=Pa.RUs (H) (([ds]:List τ).map (Pa.usB [(ds, .leaf [6,1] [1])]))) ((Qe c (λd hd=>by rw[Bz.1 hd];exact⟨.leaf [6,1] [1],by simp[Pa.findK]⟩) (by simp))) ?_;rintro _ ak⟨⟨a3,aa,a5,a7,rfl,X,P,ar⟩,o⟩;obtain rfl:aa=1:=by have h9:=X.len;have j:=P.length_eq;rw[AQ]at j;simp only[BV,AE]at j;omega
 replace c:=c.go o;have hr:=c.r;refine Hl 25 hr 0 25 (π gt)<|Hc 0 (R:=λu w'=>u=γ (B8 ds)/\Bl (ak) w') (((Gv c.t (by decide)).mono (λe w'⟨u,v,t,A⟩=>⟨u,v,by rw[t,i],A⟩))) ?_;rintro _ ae⟨rfl,D⟩;replace f:=(((((f.go C).go n).go p).ts E (λq=>by rcases q with q|q|q<;>omega)).go o).go D;refine Hc 1 (R:=λu w'=>u=γ (B8 ds)/\Bl (ae) w') (((Gv f (by decide)).mono (λe w'⟨u,v,t,A⟩=>⟨u,v,by rw[t,i],A⟩))) ?_;rintro _ ba⟨rfl,O⟩;refine Hx 0 (og f5 11 24) (β true) (λ_=>ol_eqD rfl (by kernel_rfl) (by kernel_rfl) ao) ?_;replace a:=((a.go o).go D).go O;exact Hr 5 (β true) ⟨_,rfl,rfl,a⟩
theorem Rec.drew{gr:Nat}{t:Tr}{pt:Pa.Pt}{kn:Pa.Kn}{us:List τ}(h:Rec K w gr gt gp gK gU t pt kn us):Rec K w.drew gr gt gp gK gU t pt kn us:=h.go (Ac _ _).drew
def dlT(t:Tr)(y:Opx):Tr:=if y.z=1 then delT t y.k else putT t y.k y.x
theorem XV(t:Tr)(y:Opx):Tr.sz (dlT t y)<=Tr.sz t+3:=by
 unfold dlT;split
 ·have:=SU t y.k;omega
 ·exact O9 t y.k y.x
theorem apart{gr a N:Nat}(h:a<N)(b:N<=gr/\N<=gt/\N<=gp/\N<=gK/\N<=gU):¬gr=a/\¬gt=a/\¬gp=a/\¬gU=a/\¬gK=a:=by omega
theorem UV(K:Θ)(a:Ω)(n c:Nat)(bq:List (Δ×Δ))(l0:PList)(e:Ω)(p f:Nat)(ys:List Opx)(b:Ω)(m d:Nat)(xs:List Opx)(w:Γ)(bz:PAt K w a n c bq l0)(hn:n<=1048576)(aj:OAt w e p ys)(hp:p<=1048576)(al:OAt w b m xs)(hm:m<=1048576):
 Calls prog 4 #[σ a n c,σ e p f,σ b m d] w λe w'=>e=ω (β true)/\Λ w w':=by
 have g:=Bl.refl w;refine Ck func4 81<|Hc 8 (R:=λu w'=>u=β true/\Bl (w) w') (Rz) ?_;rintro _ u1⟨rfl,b0⟩;replace g:=g.go b0;refine Hc 9 (R:=λu w'=>(∃A I J P ad T M,u=θ #[π A,σ I J P]/\(u1).heap.size<=A/\Tri Pa.An w' A T/\PAt Pa.An w' I J P ad M/\Rel T M/\Tr.sz T<=3*n/\M.length<=n)/\Bl (u1) w') ((Ry (bz.go g) hn)) ?_;rintro _ O⟨⟨A,I,J,P,ad,T,M,rfl,bo,i,k,F,ar,az⟩,cb⟩;have a2:w.heap.size<=A:=Au g.size bo;refine Hc 10 (R:=λu w'=>(∃gr gt gp gK gU,u=π gr/\Rec Pa.An w' gr gt gp gK gU T (Pa.topP (rootP T)) (Pa.knP (nodesP T) []) []/\(O).heap.size<=gr/\(O).heap.size<=gt/\(O).heap.size<=gp/\(O).heap.size<=gK/\(O).heap.size<=gU)/\Bl (O) w') ((XK i (by have:=O8 T;omega))) ?_;rintro _ u5⟨⟨gr,gt,gp,gK,gU,rfl,l,b8,b3,bu,bv,ca⟩,am⟩;have bh:=i.lt;replace g:=g.go cb;have cn:=g.size;have b6:=k.old;have cj:=Bl.size am;have ci:=l.lt;have a7:=apart bh ⟨b8,b3,bu,bv,ca⟩;obtain⟨K1,bl,a4,bk⟩:∃K1:Θ,(∀b,b<(O).heap.size->K1 b)/\(∀b,u5.heap.size<=b->K1 b)/\(∀b,K1 b->¬RA gt gp gU b):=⟨λb=>b<(O).heap.size∨u5.heap.size<=b,λb C=> .inl C,λb C=> .inr C,λb C q=>by rcases q with q|q|q<;>rcases C with C|C<;>omega⟩;replace k:PAt K1 u5 I J P ad M:=(b6.mono (λb C=>bl b C.2)).go am;obtain⟨N2,av⟩:∃N,u5.heap.size=N:=⟨_,rfl⟩;rw[av]at a4;have S:N2<=u5.heap.size:=by omega
 have bb:∀b,RA gt gp gU b->w.heap.size<=b:=λb q=>by rcases q with q|q|q<;>omega
 have bi:¬RA gt gp gU A:=λq=>by rcases q with q|q|q<;>omega
 have bg:∀b,RA gt gp gU b->b<N2:=λb q=>by rcases q with q|q|q<;>omega
 replace g:=g.go am;replace i:=i.go am;refine Ho (X:=Nat×Tr) 22 (λz=>[(30,ι ((z.1:Nat):Int)),(28,σ b m d),(29,ι m),(1,σ e p f),(7,π A),(8,σ I J P),(9,π gr)]) (λz v=>Bl w v/\Tri Pa.An v A z.2/\Rec Pa.An v gr gt gp gK gU T (Pa.topP (rootP T)) (Pa.knP (nodesP T) []) []/\PAt K1 v I J P ad M/\z.1<=m/\Tr.sz z.2<=3*n+3*z.1/\N2<=v.heap.size) (λz=>m-z.1) (0,T) ⟨g,i,l,k,A8 _,by show Tr.sz T<=3*n+3*0;omega,S⟩ ?_;clear g i l k S;rintro⟨j,t⟩ v⟨g,i,l,k,hj,hz,S⟩ I1 ba;simp only at g i l k hj hz S;by_cases Z:j<m
 ·skip
  have ay:j<xs.length:=by rw[al.len];exact Z
  obtain⟨y,hy⟩:∃y,xs[j]?=some y:=⟨_,Ad ay⟩;have ae:y∈xs:=AL hy;obtain⟨E,D,ea,ah⟩:=al.row j y hy;subst ea;have af:=(al.k y ae).an;have aw:=(al.x y ae).an;have x:=Bl.refl v;by_cases ap:y.z=1
  ·skip
   refine Ht 2 ((j:Int)<(m:Int))<|Hx 10 (og f4 9 0) (ψ E (D+j*3)) (λ_=>AW 23 _ _ E D j m d 3 34 rfl (by kernel_rfl) (by kernel_rfl) Z υ23 (by kernel_rfl))<|Hx 0 (og f4 9 1) (γ #[ι y.z,σ y.ka y.kn y.kc,σ y.va y.vn y.vc]) (λ_=>Em 34 _ E (D+j*3) y.cells.toList _ rfl (by kernel_rfl) (Q9 ah g) υ34 rfl (by kernel_rfl))<|Hn 0 #[ι 0,ε,ε] 34 ?_;intro wA Q H _;refine Hy 0 (og f4 9 3) Q #[ι y.z,σ y.ka y.kn y.kc,σ y.va y.vn y.vc] (λ_=>AM 34 _ _ _ _ _ _ rfl (by kernel_rfl) (by kernel_rfl) H.row (by kernel_rfl) rfl (by kernel_rfl)) ?_;intro L ac;have r:=H.put ac;have a5:=r.hg;have a9:=i.lt;have G:Rw Q L #[ι y.z,σ y.ka y.kn y.kc,σ y.va y.vn y.vc] 34:=r.row;refine Hl 5 G 0 3 (ι y.z)<|Hb 0 ((y.z:Int)==(1:Int)) true (Ee.2 ap)<|Hl 6 G 1 32 (σ y.ka y.kn y.kc) ?_;replace g:=g.go r.below;replace i:=i.go r.below;refine Hc 0 (R:=λu w'=>(∃b z,u=θ #[β b,ι z])/\Tri Pa.An w' A (delT t y.k)/\Touch A (L) w') ((Wp i (af.go g) (λ_ _=>trivial))) ?_;rintro _ u7⟨⟨bD,zD,rfl⟩,a0,B⟩;replace l:=l.go r.below;replace l:=l.ts (Ts.of_touch B (Ru i B)) a7;replace k:=k.go r.below;replace k:=k.touch B i;replace g:Bl w u7:=B.below g a2 g.size;replace x:=x.go r.below;have a1:=x.size;have a3:=B.size;replace i:=a0;refine Hi 4 ((j:Int)+1) ((j:Int)+1) ?_;have a8:=XV t y;exact ba 2 (j+1,dlT t y) ⟨g,by show Tri _ _ _ (dlT t y);unfold dlT;rw[Ai ap];exact i,l,k,by show j+1<=m;omega,by show Tr.sz (dlT t y)<=3*n+3*(j+1);omega,by omega⟩ (by show m-(j+1)<m-j;omega) (λ_=>by kernel_rfl)
  ·skip
   refine Ht 2 ((j:Int)<(m:Int))<|Hx 10 (og f4 9 0) (ψ E (D+j*3)) (λ_=>AW 23 _ _ E D j m d 3 34 rfl (by kernel_rfl) (by kernel_rfl) Z υ23 (by kernel_rfl))<|Hx 0 (og f4 9 1) (γ #[ι y.z,σ y.ka y.kn y.kc,σ y.va y.vn y.vc]) (λ_=>Em 34 _ E (D+j*3) y.cells.toList _ rfl (by kernel_rfl) (Q9 ah g) υ34 rfl (by kernel_rfl))<|Hn 0 #[ι 0,ε,ε] 34 ?_;intro wA Q H _;refine Hy 0 (og f4 9 3) Q #[ι y.z,σ y.ka y.kn y.kc,σ y.va y.vn y.vc] (λ_=>AM 34 _ _ _ _ _ _ rfl (by kernel_rfl) (by kernel_rfl) H.row (by kernel_rfl) rfl (by kernel_rfl)) ?_;intro L ac;have r:=H.put ac;have a5:=r.hg;have a9:=i.lt;have G:Rw Q L #[ι y.z,σ y.ka y.kn y.kc,σ y.va y.vn y.vc] 34:=r.row;refine Hl 5 G 0 3 (ι y.z)<|Hb 0 ((y.z:Int)==(1:Int)) false (Bo.2 ap)<|Hl 6 G 1 32 (σ y.ka y.kn y.kc)<|Hl 1 G 2 32 (σ y.va y.vn y.vc) ?_;replace g:=g.go r.below;replace i:=i.go r.below;refine Hc 0 (R:=λu w'=>u=ι (putE y.k y.x)/\Tri Pa.An w' A (putT t y.k y.x)/\Touch A (L) w') ((Ju i (af.go g) (aw.go g) (λ_ _=>trivial))) ?_;rintro _ u8⟨rfl,a0,B⟩;replace l:=l.go r.below;replace l:=l.ts (Ts.of_touch B (Ru i B)) a7;replace k:=k.go r.below;replace k:=k.touch B i;replace g:Bl w u8:=B.below g a2 g.size;replace x:=x.go r.below;have a1:=x.size;have a3:=B.size;replace i:=a0;refine Hi 4 ((j:Int)+1) ((j:Int)+1) ?_;have a8:=XV t y;exact ba 2 (j+1,dlT t y) ⟨g,by show Tri _ _ _ (dlT t y);unfold dlT;rw[Ae ap];exact i,l,k,by show j+1<=m;omega,by show Tr.sz (dlT t y)<=3*n+3*(j+1);omega,by omega⟩ (by show m-(j+1)<m-j;omega) (λ_=>by kernel_rfl)
 have bn:j=m:=by omega
 refine Hf 2 ((j:Int)<(m:Int)) ?_;have x:=Bl.refl v;have bj:=Ix t;obtain⟨ds,ax⟩:∃ds,rootP t=ds:=⟨_,rfl⟩;have ak:ds.length=32:=by rw[<-ax];exact bj
 refine Hc 12 (R:=λu w'=>u=γ (B8 ds)/\Bl (v) w') (((Gv i (by have:=O8 t;omega)).mono (λe w'⟨u,V,W,Y⟩=>⟨u,V,by rw[W,ax],Y⟩))) ?_;rintro _ u9⟨rfl,aa⟩;refine Hn 0 (B8 z32) 44 ?_;intro wX gX a6 _;replace g:=g.go aa;have cd:=g.size;replace x:=x.go aa;have ct:=x.size;refine Hy 0 (og f4 14 3) gX (B8 ds) (λ_=>AM 44 _ _ _ _ _ _ rfl (by kernel_rfl) (by kernel_rfl) a6.row (D5 ak) (G7 ak) (B8_one _)) ?_;intro wY bx;have U:=a6.put bx;have cm:=U.hg;have o:Rw gX wY (B8 ds) 44:=U.row;have cc:N2<=gX:=by omega
 replace x:=x.go U.below;have cq:=x.size;obtain⟨kn,bm⟩:∃kn,Pa.knP (nodesP T) []=kn:=⟨_,rfl⟩;replace l:=(l.go aa).go U.below;rw[bm]at l;replace i:=(i.go aa).go U.below;replace k:=(k.go aa).go U.below;replace g:=g.go U.below;refine Ho (X:=Nat×Tr×Pa.Pt×List τ×PList×Ω×Nat×Nat) 11 (λz=>[(52,ι ((z.1:Nat):Int)),(50,σ e p f),(51,ι p),(7,π A),(8,σ z.2.2.2.2.2.1 z.2.2.2.2.2.2.1 z.2.2.2.2.2.2.2),(9,π gr),(12,π gX)]) (λz v=>Bl w v/\Tri Pa.An v A t/\Rw gX v (B8 ds) 44/\Rec Pa.An v gr gt gp gK gU z.2.1 z.2.2.1 kn z.2.2.2.1/\(∃vs,PAt K1 v z.2.2.2.2.2.1 z.2.2.2.2.2.2.1 z.2.2.2.2.2.2.2 vs z.2.2.2.2.1)/\Rel z.2.1 z.2.2.2.2.1/\z.1<=p/\Tr.sz z.2.1<=3*n+3*z.1/\z.2.2.2.2.1.length<=n+z.1/\N2<=v.heap.size) (λz=>p-z.1) (0,T,Pa.topP (rootP T),[],M,I,J,P) ⟨g,i,o,l,⟨_,k⟩,F,A8 _,by show Tr.sz T<=3*n+3*0;omega,by show M.length<=n+0;omega,by omega⟩ ?_;clear g i l k S F ar az;rintro⟨j,T,pt,us,M,I,J,P⟩ v⟨g,i,o,l,⟨ad,k⟩,F,hj,ar,az,S⟩ I2 av;simp only at g i o l k F hj ar az S;by_cases Z:j<p
 ·skip
  have ay:j<ys.length:=by rw[aj.len];exact Z
  obtain⟨y,hy⟩:∃y,ys[j]?=some y:=⟨_,Ad ay⟩;have ae:y∈ys:=AL hy;obtain⟨E,D,ea,ah⟩:=aj.row j y hy;subst ea;have af:=(aj.k y ae).an;have aw:=(aj.x y ae).an;have x:=Bl.refl v;refine Ht 2 ((j:Int)<(p:Int))<|Hx 10 (og f4 17 0) (ψ E (D+j*3)) (λ_=>AW 23 _ _ E D j p f 3 34 rfl (by kernel_rfl) (by kernel_rfl) Z υ23 (by kernel_rfl))<|Hx 0 (og f4 17 1) (γ #[ι y.z,σ y.ka y.kn y.kc,σ y.va y.vn y.vc]) (λ_=>Em 34 _ E (D+j*3) y.cells.toList _ rfl (by kernel_rfl) (Q9 ah g) υ34 rfl (by kernel_rfl))<|Hn 0 #[ι 0,ε,ε] 34 ?_;intro wA Q H _;refine Hy 0 (og f4 17 3) Q #[ι y.z,σ y.ka y.kn y.kc,σ y.va y.vn y.vc] (λ_=>AM 34 _ _ _ _ _ _ rfl (by kernel_rfl) (by kernel_rfl) H.row (by kernel_rfl) rfl (by kernel_rfl)) ?_;intro L ac;have r:=H.put ac;have a5:=r.hg;have a9:=i.lt;have G:Rw Q L #[ι y.z,σ y.ka y.kn y.kc,σ y.va y.vn y.vc] 34:=r.row;refine Hx 6 (og f4 18 2) (γ (#[ι y.z,σ y.ka y.kn y.kc,σ y.va y.vn y.vc])) (λ_=>BW 34 _ _ _ _ _ _ rfl (by kernel_rfl) G υ34 rfl (by kernel_rfl)) ?_;replace g:=g.go r.below;replace l:=l.go r.below;replace k:=k.go r.below;replace x:=x.go r.below;refine Hc 0 (R:=λu w'=>(∃a' n' c' vs' b',u=θ #[σ a' n' c',β b']/\PAt K1 w' a' n' c' vs' (dsL M y.z y.k y.x)/\(Rel T M->b'=true))/\Rec Pa.An w' gr gt gp gK gU (dsT T y.z y.k y.x) (dsP kn pt y.z y.k y.x) kn (dsU kn pt y.z y.k y.x us)/\Ts (RA gt gp gU) (L) w') ((XR l k (af.go g) (aw.go g) (by have:=k.ll;omega) F.klen (λb C=>a4 b (by have:=x.size;omega)) bk)) ?_;rintro _ cs⟨⟨b4,bp,b1,cg,bD,rfl,b9,b5⟩,b2,ao⟩;obtain rfl:bD=true:=b5 F;have a1:=x.size;have a3:=ao.size;replace g:=Bl.ts g ao bb;refine Hi 24 ((j:Int)+1) ((j:Int)+1) ?_;have a8:=Xbm T y.z y.k y.x;have cp:=ZK M y.z y.k y.x;replace i:=(i.go r.below).ts ao bi;replace o:=(o.go r.below).ts ao (λq=>by have:=bg _ q;omega);exact av 2 (j+1,dsT T y.z y.k y.x,dsP kn pt y.z y.k y.x,dsU kn pt y.z y.k y.x us,dsL M y.z y.k y.x,b4,bp,b1) ⟨g,i,o,b2,⟨_,b9⟩,F.ds af.ag.b,by show j+1<=p;omega,by show Tr.sz (dsT T y.z y.k y.x)<=3*n+3*(j+1);omega,by show(dsL M y.z y.k y.x).length<=n+(j+1);omega,by omega⟩ (by show p-(j+1)<p-j;omega) (λ_=>by kernel_rfl)
 have bn:j=p:=by omega
 refine Hf 2 ((j:Int)<(p:Int)) ?_;have bf:=Ix T;obtain⟨dr,hdr⟩:∃dr,rootP T=dr:=⟨_,rfl⟩;have bc:dr.length=32:=by rw[<-hdr];exact bf
 have s:=l.r;refine Fq 10 (λv=>Rw gX v (B8 ds) 44/\Rw gr v #[π gt,π gp] 48) (⟨o.drew,s.drew⟩) ?_;replace o:=o.drew;replace s:=s.drew;refine Dx [0] 2 (og f4 23 2) (γ (B8 ds)) (λv hv _=>BW 44 _ _ _ _ _ _ rfl (by kernel_rfl) hv.1 υ44 rfl (D5 ak)) ⟨o,s⟩<|Dz [1] ?_;replace i:=i.drew;refine Yc 1 (R:=λu w'=>u=γ (B8 ds)/\Bl (v.drew) w') (((Gv i (by have:=O8 t;omega)).mono (λe w'⟨u,V,W,Y⟩=>⟨u,V,by rw[W,ax],Y⟩))) (λu w' h=>⟨o.go h.2,s.go h.2⟩) ?_ yn;rintro _ bw⟨rfl,ab⟩;replace o:=o.go ab;replace s:=s.go ab;refine Dx [] 3 (og f4 23 3) (β true) (λv hv _=>ol_eqD rfl (by kernel_rfl) (by kernel_rfl) ak) ⟨o,s⟩<|Dx [4,5] 6 (og f4 23 6) (π gr) (λv hv=>(λ_=>by kernel_rfl)) ⟨o,s⟩<|Dl [7] 8 (λv hv=>hv.2) 0 25 (π gt) ⟨o,s⟩<|Dy [10] [9] ⟨o,s⟩ ?_;replace l:=l.drew.go ab;refine Yc 9 (R:=λu w'=>u=γ (B8 dr)/\Bl (bw) w') (((Gv l.t (by have:=O8 T;omega)).mono (λe w'⟨u,V,W,Y⟩=>⟨u,V,by rw[W,hdr],Y⟩))) (λu w' h=>⟨o.go h.2,s.go h.2⟩) ?_ yn;rintro _ b7⟨rfl,ai⟩;refine Dz [11] ?_;replace k:=(k.drew.go ab).go ai;replace o:=o.go ai;replace s:=s.go ai;refine Yc 11 (R:=λu w'=>u=γ (B8 dr)/\Bl (b7) w') (((U2 F k (by have:=k.ll;omega)).mono (λe w'⟨u,V,W,Y⟩=>⟨u,V,by rw[W,hdr],Y⟩))) (λu w' h=>⟨o.go h.2,s.go h.2⟩) ?_ yn;rintro _ ch⟨rfl,aq⟩;replace o:=o.go aq;replace s:=s.go aq;refine Dx [] 12 (og f4 23 12) (β true) (λv hv _=>ol_eqD rfl (by kernel_rfl) (by kernel_rfl) bc) ⟨o,s⟩<|Dq [13,14] ⟨o,s⟩ ?_;replace g:=((g.drew.go ab).go ai).go aq;exact Hr 2 (β true) ⟨rfl,g⟩
end
section
open Go.ChangeShapes Go.WideShapes Go.ChangeAt Go.RowKit
open Go.ChangeMaps (open_string shut_string)
theorem own:ownKnob prog.godebug=none:=by kernel_rfl
theorem OA:laidOutB prog=true:=by kernel_rfl
theorem Xbn:prog.cellsOf 5=1:=by kernel_rfl
end
section
open Go.ChangeShapes Go.WideShapes Go.ChangeAt Go.RowKit
variable {H : Type} {w : World} {b0 : Nat} {r : Reach} {held : Bool} {d : DataW H} {p : List MemPlace}
theorem SV:prog.cellsOf 34=3:=by kernel_rfl
theorem Xbo:prog.cellsOf 3=1:=by kernel_rfl
theorem OB:prog.cellsOf 32=1:=by kernel_rfl
theorem XW(d:DataW H):1<=Rows.uptoBulk d:=by
 cases d with
 |lit l=>cases l<;>simp[Rows.uptoBulk]
 |_=>simp[Rows.uptoBulk]
theorem Mm{H:Type}:∀ds:List (DataW H),ds.length<=Rows.uptoBulkAll ds
 |[]=>by simp[Rows.uptoBulkAll]
 |d::r=>by
  have:=Mm r;have:=XW d;simp only[Rows.uptoBulkAll,AE];omega
section
variable {H : Type} {enc : TypeId × Value → H} {w : World} {held : Bool}
theorem JG{fuel:Nat}{cs:List Δ}{x:DataW H×List MemPlace}(q:DataW.trod enc prog w 0 (λ_=>true) held fuel 32 cs=some x):∃a len cap bs,cs=[σ a len cap]/\Ag w a len cap bs:=by
 rcases open_ints υ32 υ5 Xbn q with⟨e,_⟩|⟨p,len,cap,c,e,_,r,u,y,g,f,m⟩
 ·exact⟨none,0,0,[],e,⟨.inl ⟨rfl,rfl⟩,λ_=>⟨rfl,rfl⟩,rfl,λx g=>by cases g⟩⟩
 ·have z:c.length=cap:=by simpa using y
  have d:(c.take len).length=len:=by rw[Ap];omega
  have o:∀n∈c.take len,0<=n/\n<256:=λn t=>by
   have:=bounds_u8 (m n (Bb t));omega
  refine⟨some p,len,cap,c.take len,e,⟨?_,(λh=>by cases h),d,o⟩⟩;by_cases s:len=0
  ·subst s;exact .inl ⟨rfl,by simp⟩
  ·obtain⟨b,off,l⟩:=p;have v:=f 0 (by omega);have k:l=none:=(by simpa[Addr.add]using World.cell?_spot v);subst k;refine .inr ⟨b,off,rfl,d,by omega,r,u,λj i=>?_⟩;rw[d]at i;have:=f j (by omega);rw[BO]at this;rw[this,List.getD,List.getD,AT i]
theorem XX{cs:List Δ}(h:cs.length=3):cs=(cs.drop 0).take 1++((cs.drop 1).take 1++(cs.drop 2).take 1):=by
 match cs,h with
 |[a,b,c],_=>rfl
theorem XY{fuel:Nat}{cs:List Δ}{x:DataW H×List MemPlace}(r:DataW.trod enc prog w 0 (λ_=>true) held fuel 34 cs=some x)
 :∃y:Opx,cs=y.cells.toList/\Ag w y.ka y.kn y.kc y.k/\Ag w y.va y.vn y.vc y.x:=by
 obtain⟨xs,n,E,v,e,m,d⟩:=DataW.trod_struct υ34 r;rw[SV]at e;have q:=d 0 _ rfl;have A:=d 1 _ rfl;have D:=d 2 _ rfl;have l:xs.length=3:=m;obtain⟨x0,x1,x2,rfl⟩:∃x0 x1 x2,xs=[x0,x1,x2]:=by
  match xs,l with
  |[a,b,c],_=>exact⟨a,b,c,rfl⟩
 subst v;have f:DataW.trod enc prog w 0 (λ_=>true) held n 3 ((cs.drop 0).take (prog.cellsOf 3))=some x0:=q;have h:DataW.trod enc prog w 0 (λ_=>true) held n 32 ((cs.drop 1).take (prog.cellsOf 32))=some x1:=A;have g:DataW.trod enc prog w 0 (λ_=>true) held n 32 ((cs.drop 2).take (prog.cellsOf 32))=some x2:=D;rw[Xbo]at f;rw[OB]at h;rw[OB]at g;obtain⟨k,z,_,_⟩:=DataW.trod_int υ3 f;obtain⟨B,u,c1,s,p,i⟩:=JG h;obtain⟨C,m2,c2,t,o,j⟩:=JG g;refine⟨⟨k,B,u,c1,C,m2,c2,s,t⟩,?_,i,j⟩;rw[XX (cs:=cs) e,z,p,o];rfl
theorem UX{fuel:Nat}{cs:List Δ}{x:DataW H×List MemPlace}(V:DataW.trod enc prog w 0 (λ_=>true) held fuel 23 cs=some x)
 (Q:Rows.uptoBulk x.1<=1048576):∃a m c xs,cs=[σ a m c]/\OAt w a m xs/\m<=1048576:=by
 rcases DataW.trod_slice υ23 V with⟨q,_⟩|⟨p,len,cap,E,rest,n,Z,q,b,_,hl,hm,W,O,_,_⟩
 ·exact⟨none,0,0,[],q,⟨rfl,λj r f=>by simp at f,(λx b=>by cases b),λx b=>by cases b⟩,by omega⟩
 ·subst b;have U:Rows.uptoBulk (DataW.slice (E.map (·.1)) (rest.map (·.1)))<=1048576:=Q;simp only[Rows.uptoBulk]at U;have T:=Mm (E.map (·.1));rw[AQ]at T;have D:∀i,i<len->∃y:Opx,(∀k,k<3->w.cell? ((p.add (i*3)).add k)=y.cells.toList[k]?)/\Ag w y.ka y.kn y.kc y.k/\Ag w y.va y.vn y.vc y.x:=by
   intro i B;have I:=O i B;rw[SV,Ad (by omega),Option.bind_eq_some_iff]at I;obtain⟨X,S,P⟩:=I;obtain⟨_,Y,F⟩:=World.cells?_some S;obtain⟨y,M,f⟩:=XY P;refine⟨y,?_,f⟩;rw[M]at F;exact F
  have J:0<len->p.spot=none:=by
   intro h;obtain⟨y,C,f⟩:=D 0 h;have c0:=C 0 (by omega);rw[show y.cells.toList[0]?=some (ι y.z)from rfl]at c0;simpa[Addr.add]using World.cell?_spot c0
  have L:∀d k,k+d=len->∃o:List Opx,o.length=d/\(∀j r,o[j]?=some r->∃g off,(some p:Ω)=some ⟨g,off,none⟩/\w.rangeAt g (off+(k+j)*3) r.cells.toList)/\∀y∈o,Ag w y.ka y.kn y.kc y.k/\Ag w y.va y.vn y.vc y.x:=by
   intro d
   induction d with
   |zero=>intro k _;exact⟨[],rfl,(λj r f=>by simp at f),λx b=>by cases b⟩
   |succ d N=>
    intro k hk;obtain⟨o,v,t,l⟩:=N (k+1) (by omega);obtain⟨y,C,f⟩:=D k (by omega);refine⟨y::o,by rw[AE,v],λj s A=>?_,λx b=>?_⟩
    ·cases j with
     |zero=>
      simp at A;subst A;obtain⟨g,off,K⟩:=p;have R:K=none:=J (by omega);subst R;refine⟨g,off,rfl,λi u G=>?_⟩;have B:i<3:=(Ar.1 G).1;have:=C i B;rw[BO,BO,G]at this;exact this
     |succ j=>
      obtain⟨g,off,e,l⟩:=t j s (by simpa using A);rw[show k+1+j=k+(j+1)from by omega]at l;exact⟨g,off,e,l⟩
    ·rcases Ay.1 b with rfl|b
     ·exact f
     ·exact l x b
  obtain⟨o,v,t,l⟩:=L len 0 (by omega);refine⟨some p,len,cap,o,q,⟨v,λj r f=>?_,λy z=>(l y z).1,λy z=>(l y z).2⟩,by omega⟩;obtain⟨g,off,e,l⟩:=t j r f;rw[A6]at l;exact⟨g,off,e,l⟩
end
theorem Nv{enc:TypeId×Δ->H}{v:Δ}
 (g:Value.okWide prog w r b0 23 v) (h:DataW.Trod enc prog w 0 (λ_=>true) held 23 v d p)
 (e:Rows.uptoBulk d<=1048576):∃a m c xs,v=σ a m c/\OAt w a m xs/\m<=1048576:=by
 obtain⟨a,len,cap,rfl⟩:=okWide_slice υ23 g;obtain⟨fuel,f⟩:=h;obtain⟨a',m,c,xs,b,i⟩:=UX f e;simp[Value.cells]at b;obtain⟨rfl,rfl,rfl⟩:=b;exact⟨_,_,_,xs,rfl,i⟩
theorem SX:prog.cellsOf 55=2:=by kernel_rfl
structure Pax where
 ka:Ω
 kn:Nat
 kc:Nat
 va:Ω
 vn:Nat
 vc:Nat
 k:τ
 x:τ
def Pax.pv(y:Pax):Δ×Δ:=(σ y.ka y.kn y.kc,σ y.va y.vn y.vc)
section
variable {H : Type} {enc : TypeId × Value → H} {w : World} {held : Bool}
theorem ZL{cs:List Δ}(h:cs.length=2):cs=(cs.drop 0).take 1++(cs.drop 1).take 1:=by
 match cs,h with
 |[a,b],_=>rfl
theorem R8{fuel:Nat}{cs:List Δ}{x:DataW H×List MemPlace}(m:DataW.trod enc prog w 0 (λ_=>true) held fuel 55 cs=some x):∃y:Pax,cs=[y.pv.1,y.pv.2]/\Ag w y.ka y.kn y.kc y.k/\Ag w y.va y.vn y.vc y.x:=by
 obtain⟨xs,n,z,r,d,j,c⟩:=DataW.trod_struct υ55 m;rw[SX]at d;have s:=c 0 _ rfl;have v:=c 1 _ rfl;have i:xs.length=2:=j;obtain⟨x1,x2,rfl⟩:∃x1 x2,xs=[x1,x2]:=by
  match xs,i with
  |[a,b],_=>exact⟨a,b,rfl⟩
 subst r;have f:DataW.trod enc prog w 0 (λ_=>true) held n 32 ((cs.drop 0).take (prog.cellsOf 32))=some x1:=s;have e:DataW.trod enc prog w 0 (λ_=>true) held n 32 ((cs.drop 1).take (prog.cellsOf 32))=some x2:=v;rw[OB]at f;rw[OB]at e;obtain⟨t,q,c1,o,l,g⟩:=JG f;obtain⟨u,m2,c2,p,k,h⟩:=JG e;refine⟨⟨t,q,c1,u,m2,c2,o,p⟩,?_,g,h⟩;rw[ZL (cs:=cs) d,l,k];rfl
theorem Qg{fuel:Nat}{cs:List Δ}{x:DataW H×List MemPlace}(X:DataW.trod enc prog w 0 (λ_=>true) held fuel 22 cs=some x)
 (T:Rows.uptoBulk x.1<=1048576):∃a m c vs l,cs=[σ a m c]/\PAt (λ_=>True) w a m c vs l/\m<=1048576:=by
 rcases DataW.trod_slice υ22 X with⟨A,_⟩|⟨p,len,cap,I,rest,n,af,A,o,_,Y,F,ab,R,_,_⟩
 ·exact⟨none,0,0,[],[],A,PAt.empty _ _,by omega⟩
 ·subst o;have ac:Rows.uptoBulkAll (I.map (·.1))+Rows.uptoBulkAll (rest.map (·.1))+1<=1048576:=by have:=T;simp only[Rows.uptoBulk]at this;exact this
  have W:=Mm (I.map (·.1));rw[AQ]at W;have G:∀i,i<len->∃y:Pax,(∀k,k<2->w.cell? ((p.add (i*2)).add k)=[y.pv.1,y.pv.2][k]?)/\Ag w y.ka y.kn y.kc y.k/\Ag w y.va y.vn y.vc y.x:=by
   intro i Z;have t:=R i Z;rw[SX,Ad (by omega),Option.bind_eq_some_iff]at t;obtain⟨ad,V,S⟩:=t;obtain⟨_,ae,J⟩:=World.cells?_some V;obtain⟨y,P,s⟩:=R8 S;refine⟨y,?_,s⟩;rw[P]at J;exact J
  have M:0<len->p.spot=none:=by
   intro h;obtain⟨y,z,s⟩:=G 0 h;have c0:=z 0 (by omega);rw[show[y.pv.1,y.pv.2][0]?=some y.pv.1 from rfl]at c0;simpa[Addr.add]using World.cell?_spot c0
  have O:∀d k,k+d=len->∃b:List Pax,b.length=d/\(∀j u,(flatP (b.map Pax.pv))[j]?=some u->∃g off,(some p:Ω)=some ⟨g,off,none⟩/\w.cell? ⟨g,off+k*2+j,none⟩=some u)/\∀y∈b,Ag w y.ka y.kn y.kc y.k/\Ag w y.va y.vn y.vc y.x:=by
   intro d
   induction d with
   |zero=>intro k _;exact⟨[],rfl,(λj r s=>by simp[flatP]at s),λx o=>by cases o⟩
   |succ d Q=>
    intro k hk;obtain⟨b,v,B,E⟩:=Q (k+1) (by omega);obtain⟨y,z,s⟩:=G k (by omega);refine⟨y::b,by rw[AE,v],λj u D=>?_,λx o=>?_⟩
    ·obtain⟨g,off,N⟩:=p;have U:N=none:=M (by omega);subst U;refine⟨g,off,rfl,?_⟩;have f:([y.pv.1,y.pv.2]++flatP (b.map Pax.pv))[j]?=some u:=D
     match j,f with
     |0,f=>
      have:=z 0 (by omega);rw[BO,BO]at this;exact this.trans f
     |1,f=>
      have:=z 1 (by omega);rw[BO,BO]at this;exact this.trans f
     |j+2,f=>
      obtain⟨g',aa,e,C⟩:=B j u (by simpa using f);cases e;rw[show off+k*2+(j+2)=off+(k+1)*2+j from by omega];exact C
    ·rcases Ay.1 o with rfl|o
     ·exact s
     ·exact E x o
  obtain⟨b,v,B,E⟩:=O len 0 (by omega);refine⟨some p,len,cap,b.map Pax.pv,b.map (λy=>(y.k,y.x)),A,⟨by rw[AQ,v],by rw[AQ,v],Y,(λe=>by cases e),λj u D=>?_,λj q e K t=>?_,λ_ _ _=>trivial⟩,by omega⟩
  ·obtain⟨g,off,e,C⟩:=B j u D;exact⟨g,off,e,by rw[show off+j=off+0*2+j from by omega];exact C⟩
  ·rw[AZ]at K t;obtain⟨y,L,rfl⟩:=Option.map_eq_some_iff.1 K;rw[L]at t;cases t;have F:=E y (AL L);exact⟨_,_,_,_,_,_,rfl,rfl,⟨F.1,λ_ _ _=>trivial⟩,⟨F.2,λ_ _ _=>trivial⟩⟩
end
theorem Qh{enc:TypeId×Δ->H}{v:Δ}
 (g:Value.okWide prog w r b0 22 v) (h:DataW.Trod enc prog w 0 (λ_=>true) held 22 v d p)
 (e:Rows.uptoBulk d<=1048576):∃a m c vs l,v=σ a m c/\PAt (λ_=>True) w a m c vs l/\m<=1048576:=by
 obtain⟨a,len,cap,rfl⟩:=okWide_slice υ22 g;obtain⟨fuel,f⟩:=h;obtain⟨a',m,c,vs,l,b,i⟩:=Qg f e;simp[Value.cells]at b;obtain⟨rfl,rfl,rfl⟩:=b;exact⟨_,_,_,vs,l,rfl,i⟩
end
end Go.Proofs.YtkdlocloepbmcaaGreat
