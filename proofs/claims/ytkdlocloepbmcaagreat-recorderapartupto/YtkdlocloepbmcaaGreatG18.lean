/- What a writer writes: branches, trees. -/
import Derived.Test.YtkdlocloepbmcaaGreatG17
import Derived.Lib.Bytealg
import Derived.Laws.Externs
import Derived.Lib.SliceRun
set_option linter.unusedVariables false
set_option linter.unusedSimpArgs false
set_option maxRecDepth 100000
set_option maxHeartbeats 16000000
open Go.Proofs.Tryz Go.RowKit
namespace Go.Proofs.YtkdlocloepbmcaaGreat
section
open Tr
variable {w : World} {gW base n c gB gN gK j : Nat} {vN vM : Value} {X Z : Nat → Prop} {ns : List (List Int)} {k : Nat → Tr} {vs : Nat → Value} {a : Option Addr} {x : List Int} {ys : Nat → RV}
def rP(k:Nat->Tr)(i:Nat):PR:=if(k i).isNo then r0 else referP (encT (k i))
def nmK(k:Nat->Tr)(i:Nat):List τ:=if(k i).isNo then[]else nmd (k i)++nm1 (encT (k i))
def nmJ(k:Nat->Tr)(j:Nat):List τ:=(List.range j).flatMap (nmK k)
theorem J9(k:Nat->Tr)(j:Nat):nmJ k (j+1)=nmJ k j++nmK k j:=by simp[nmJ,CO,C7]
theorem PI(k:Nat->Tr)(i:Nat):∀d,(nmJ k i).length<=(nmJ k (i+d)).length
 |0=>Ab _
 |d+1=>by rw[<-C4,J9,Af];have:=PI k i d;omega
theorem Rm:(λ(e:Ω)(a d:Nat)(c:Ω)(kn b:Nat)=>prog.built 121 [(0,ι 3),(4,σ c kn b),(2,σ e a d)])=λe a d c kn b=>some (NV.cells ⟨3,none,0,0,e,a,d,rz,c,kn,b⟩).toArray:=by kernel_rfl
theorem Ut(e:Ω)(a d:Nat)(c:Ω)(kn b:Nat):prog.built 121 [(0,ι 3),(4,σ c kn b),(2,σ e a d)]=some (NV.cells ⟨3,none,0,0,e,a,d,rz,c,kn,b⟩).toArray:=AK (AK (AK (AK (AK (AK Rm e) a) d) c) kn) b
def RFS(t:Tr):Prop:=∀{v:Γ}{gW base:Nat}{vM:Δ}{Y Z:Θ}{ns:List τ}{val:Δ},TA (KW gW vM Z) v t val->Wt v gW base vM Y ns->(∀b,v.heap.size<=b->Y b)->(ns++nmd t).length+1<=7600000000000->κ 208 #[π gW,val] v λu w'=>RRf v gW base vM Y ns t u w'
structure BI(w:Γ)(gW base:Nat)(vN:Δ)(X:Θ)(ns:List τ)(k:Nat->Tr)(vs:Nat->Δ)(a:Ω)(n c:Nat)(x:τ)(gB gN gK:Nat)(j:Nat)(vM:Δ)(ys:Nat->RV)(v:Γ):Prop where
 hrB:Rw gB v (brc vs (σ a n c)) 250
 hrN:Rw gN v nz.cells.toArray 121
 hK:Kr gK v ys
 hk:TK (KW gW vM (λb=>b<w.heap.size)) v k vs
 hx:Sk (KW gW vM (λb=>b<w.heap.size)) v a n c x
 hr:∀i,i<16->Rf (KW gW vM (λb=>gK<b)) v (ys i) (if i<j then rP k i else r0)
 hW:Wt v gW base vM (λb=>X b/\b≠gN/\b≠gK) (ns++nmJ k j)
 hG:Wg w v gW vN vM
theorem BI.skip{v:Γ}(h:BI w gW base vN X ns k vs a n c x gB gN gK j vM ys v)(b:(k j).isNo=true):BI w gW base vN X ns k vs a n c x gB gN gK (j+1) vM ys v:=by
 refine⟨h.hrB,h.hrN,h.hK,h.hk,h.hx,λi f=>?_,by rw[J9,show nmK k j=[]from by unfold nmK;rw[Ai b],A7];exact h.hW,h.hG⟩;have:=h.hr i f;by_cases e:i=j
 ·subst e;rw[Ae (by omega)]at this;rw[Ai (by omega),show rP k i=r0 from by unfold rP;rw[Ai b]];exact this
 ·by_cases d:i<j
  ·rw[Ai d]at this;rw[Ai (by omega)];exact this
  ·rw[Ae d]at this;rw[Ae (by omega)];exact this
theorem BI.step{v:Γ}(h:BI w gW base vN X ns k vs a n c x gB gN gK j vM ys v)(B:j<16)(o:(k j).isNo=false)(F:w.heap.size<=gB)(G:gB<gN)(E:gN<gK)
 {y:RV} {l:Δ} {u:Γ} (p:Rf (KW gW l (λb=>v.heap.size<b)) u y (referP (encT (k j)))) (A:Wt u gW base l (λb=>X b/\b≠gN/\b≠gK) ((ns++nmJ k j)++(nmd (k j)++nm1 (encT (k j))))) (g:Wg v u gW vM l):Kr gK u ys/\BI w gW base vN X ns k vs a n c x gB gN gK (j+1) l (updR ys j y) (u.setCells gK (0+j*34) y.cells):=by
 have m:=h.hK.wg g h.hW;have C:=h.hK.lt;have f:=St.of u gK (0+j*34) y.cells;have s:=p.at'.len;obtain⟨cur,t,D⟩:=m.row;refine⟨m,(h.hrB.wg g h.hW (by decide) (by decide)).st f (by omega),(h.hrN.wg g h.hW (by decide) (by decide)).st f (by omega),m.put B s,(h.hk.wg g).st f (λb d=>by have:=d.2.2;omega),(h.hx.wg g).st f (λb d=>by have:=d.2.2;omega),λi z=>?_,?_,(h.hG.trans g).st f (by omega)⟩
 ·by_cases e:i=j
  ·subst e;rw[Ai (by omega),show updR ys i y i=y from by simp[updR],show rP k i=referP (encT (k i))from by unfold rP;rw[Ae (by simp[o])]];exact(p.mono (λb d=>⟨d.1,d.2.1,by have:=d.2.2;omega⟩)).st f (λb d=>by have:=d.2.2;omega)
  ·rw[show updR ys j y i=ys i from by simp[updR,e]];have q:=((h.hr i z).wg g).st f (λb d=>by have:=d.2.2;omega);by_cases r:i<j
   ·rw[Ai r]at q;rw[Ai (by omega)];exact q
   ·rw[Ae r]at q;rw[Ae (by omega)];exact q
 ·have e:ns++nmJ k (j+1)=(ns++nmJ k j)++(nmd (k j)++nm1 (encT (k j))):=by rw[J9,show nmK k j=nmd (k j)++nm1 (encT (k j))from by unfold nmK;rw[Ae (by simp[o])],AX]
  rw[e];exact A.st t (by decide) (by decide) (λb d=>d.2.2) f
theorem Uu(K:Θ)(w:Γ):RefAt K w rz r0:=⟨rfl,rfl,(GW w).2.2.1,rfl,⟨.inl ⟨rfl,rfl⟩,λ_=>⟨rfl,rfl⟩,rfl,λx a=>by cases a⟩,A8 _,λ_ _ e=>by cases e⟩
theorem Zh{K:Θ}(h:Kr gK w ys)(d:∀i,i<16->Rf K w (ys i) (if i<16 then rP k i else r0)):KidsAt (λ_=>True) w (ζ gK 0) (nodeP (br k x)).ks:=by
 intro j r a;have c:j<16:=by have:=(Ar.1 a).1;simpa[nodeP]using this
 have e:r=rP k j:=by
  simp only[nodeP]at a;rw[AZ,List.getElem?_range c]at a;simp at a;rw[<-a];rfl
 have q:=d j c;rw[Ai c]at q;exact⟨gK,0,ys j,rfl,trivial,h.rng j c,by rw[e];exact q.at'.go (λb f _=>⟨rfl,trivial⟩)⟩
theorem Uv(hW:Wt w gW base vN X ns)(C:TK (KW gW vN Z) w k vs)(p:Sk (KW gW vN Z) w a n c x)(ad:n<=256)(hX:∀b,w.heap.size<=b->X b)(hR:∀i,i<16->k i=no∨RFS (k i))(hM:(ns++nmJ k 16).length+1<=7600000000000):
 κ 204 #[γ (brc vs (σ a n c)),π gW] w λu w'=>RNd w gW base vN X ns (br k x) u w':=by
 have s:=Bl.refl w;have Q:=hW;refine Ck func204 28<|Hn 2 (brc vs (σ a n c)) 250 ?_;intro w1 gB r B;have af:=r.hg;have ac:=r.size;refine Hn 0 nz.cells.toArray 121 ?_;intro w2 gN o A;have aa:=o.hg;have ab:=o.size;refine M6 4 kz 118 16 ?_;intro w3 gK l _;have H:=Kr.new l;have ae:=l.hg;replace C:=((C.aged.go r.below).go o.below).go l.below;replace p:=((p.aged.go r.below).go o.below).go l.below;replace s:=((s.go r.below).go o.below).go l.below;replace B:=(B.go o.below).go l.below;replace A:=A.go l.below;have d:BI w gW base vN X ns k vs a n c x gB gN gK 0 vN (λ_=>rz) w3:=⟨B,A,H,C,p,λi J=>by rw[Ae (by omega)];exact⟨Uu _ _⟩,(by rw[show nmJ k 0=[]from rfl,A7];exact(Q.mono (Y:=λb=>X b/\b≠gN/\b≠gK) (λb f p=>⟨p,by omega,by omega⟩)).go s),Wg.of_below s⟩;have D:w.heap.size<=gB/\gB<gN/\gN<gK:=by omega
 clear B A H C p s;refine Hx 7 (og f204 2 1) (γ (bra vs)) (λ_=>ol_arr d.hrB _ rfl (by kernel_rfl))<|Ho (X:=Nat×Δ×(Nat->RV)) 4 (λz=>[(11,ι ((z.1:Nat):Int)),(10,γ (bra vs)),(5,σ (ζ gK 0) 16 16),(1,π gW),(2,π gB),(4,π gN)]) (λz v=>BI w gW base vN X ns k vs a n c x gB gN gK z.1 z.2.1 z.2.2 v/\z.1<=16) (λz=>16-z.1) (0,vN,λ_=>rz) ⟨d,A8 _⟩ ?_;clear d;rintro⟨j,vM,ys⟩ v⟨d,hj⟩ I1 E;simp only at d hj;by_cases g:j<16
 ·skip
  refine Ht 2 ((j:Int)<(16:Int))<|Hx 11 (og f204 4 1) (vs j) (λ_=>ol_ixa _ _ vs j g rfl (by kernel_rfl) (by kernel_rfl))<|Hx 7 (og f204 5 1) (β (!(k j).isNo)) (λ_=>ol_nen (d.hk j g) _ _ rfl (by kernel_rfl) (by kernel_rfl)) ?_;cases q:(k j).isNo with
  |true=>
   have t:=d.skip q;refine Hi 7 ((j:Int)+1) ((j+1:Nat):Int) ?_;exact E 2 (j+1,vM,ys) ⟨t,by omega⟩ (by show 16-(j+1)<16-j;omega) (λ_=>by kernel_rfl)
  |false=>
   have S:RFS (k j):=by
    rcases hR j g with h|h
    ·rw[h]at q;simp[isNo]at q
    ·exact h
   have P:((ns++nmJ k j)++nmd (k j)).length+1<=7600000000000:=by
    have I:=PI k (j+1) (15-j);rw[show j+1+(15-j)=16 from by omega,J9,show nmK k j=nmd (k j)++nm1 (encT (k j))from by unfold nmK;rw[Ae (by simp[q])]]at I;simp only[Af]at I hM⊢;omega
   refine Hc 8 (R:=RRf v gW base vM (λb=>X b/\b≠gN/\b≠gK) (ns++nmJ k j) (k j)) (S (d.hk j g) d.hW (λb f=>⟨hX b (Au d.hG.size f),by have:=d.hK.lt;omega,by have:=d.hK.lt;omega⟩) P) ?_;rintro _ u1⟨y,vP,rfl,G,K,W⟩;have O:=G.at'.len;obtain⟨U,t⟩:=d.step g q D.1 D.2.1 D.2.2 G K W;refine Hx 0 (og f204 6 5) (ψ gK (0+j*34)) (λ_=>AW 119 _ _ gK 0 j 16 16 34 118 rfl (by kernel_rfl) (by kernel_rfl) g υ119 (by kernel_rfl))<|Hs 0 (og f204 6 6) (λ_=>ol_storeM _ _ U g O rfl (by kernel_rfl) (by kernel_rfl)) ?_;generalize u1.setCells gK (0+j*34) y.cells=wS at t⊢;refine Hi 4 ((j:Int)+1) ((j+1:Nat):Int) ?_;exact E 2 (j+1,vP,updR ys j y) ⟨t,by omega⟩ (by show 16-(j+1)<16-j;omega) (λ_=>by kernel_rfl)
 obtain rfl:j=16:=by omega
 refine Hb 2 (decide (((16:Nat):Int)<(16:Int))) false (rfl)<|Hl 13 d.hrB 16 32 (σ a n c)<|Hx 0 (og f204 8 3) (γ (NV.cells ⟨3,none,0,0,a,n,c,rz,some ⟨gK,0,none⟩,16,16⟩).toArray) (λ_=>ol_build 121 _ [(0,ι 3),(4,σ (ζ gK 0) 16 16),(2,σ a n c)] _ rfl (by kernel_rfl) (Ut _ _ _ _ _ _))<|Hy 0 (og f204 8 4) gN (NV.cells ⟨3,none,0,0,a,n,c,rz,some ⟨gK,0,none⟩,16,16⟩).toArray (λ_=>AM 121 _ _ _ _ _ _ rfl (by kernel_rfl) (by kernel_rfl) d.hrN (by rw[I0,IJ (y:=⟨3,none,0,0,a,n,c,rz,some ⟨gK,0,none⟩,16,16⟩) rfl]) (by rw[IJ (y:=⟨3,none,0,0,a,n,c,rz,some ⟨gK,0,none⟩,16,16⟩) rfl];rfl) (QP _)) ?_;intro wE m;have M:Rw gN wE (NV.cells ⟨3,none,0,0,a,n,c,rz,some ⟨gK,0,none⟩,16,16⟩).toArray 121:=m.row d.hrN;have F:=d.hx.put m (λb f=>by have:=f.2.2;omega);have N:=d.hK.same (m.other (by omega));have L:=λi J=>(d.hr i J).put m (λb f=>by have:=f.2.2;omega);have T:=(d.hW.put d.hrN (by decide) (by decide) (λb f=>f.2.1) m).mono (Y:=X) (λb _ f=>f.1);have V:=d.hG.put m (by omega);have lx:=F.len;exact JI 3 (γ (NV.cells ⟨3,none,0,0,a,n,c,rz,some ⟨gK,0,none⟩,16,16⟩).toArray) (λ_=>FE results204 _ gN ⟨3,none,0,0,a,n,c,rz,some ⟨gK,0,none⟩,16,16⟩ rfl (by kernel_rfl) M) ⟨_,rfl,⟨3,none,0,0,a,n,c,rz,some ⟨gK,0,none⟩,16,16⟩,vM,rfl,⟨rfl,KR _,F.agk (by omega),GW _,⟨(by simp[nodeP]),Ab _,(by show 16<=maxLen;unfold maxLen;omega),(by show 16<=_;omega),λe=>by cases e⟩,Zh N L⟩,T,V⟩
theorem Uw(x:Δ):Iv "pergola/trie.node" (.iface 102 x) 195 x:=FL λw vs=>by kernel_rfl
theorem Ux(x:Δ):Iv "pergola/trie.node" (.iface 255 x) 211 x:=FL λw vs=>by kernel_rfl
theorem Uy(x:Δ):Iv "pergola/trie.node" (.iface 250 x) 204 x:=FL λw vs=>by kernel_rfl
def NDS(t:Tr):Prop:=∀{v:Γ}{gW base:Nat}{vM:Δ}{Y Z:Θ}{ns:List τ}{val:Δ},TA (KW gW vM Z) v t val->Wt v gW base vM Y ns->(∀b,v.heap.size<=b->Y b)->(ns++nmd t).length+1<=7600000000000->MC "pergola/trie.node" val #[π gW] v (RNd v gW base vM Y ns t)
theorem Ow{t:Tr}(a:t≠no)(h:NDS t){v:Γ}{Y:Θ}{val:Δ}(c:TA (KW gW vM Z) v t val)(f:Wt v gW base vM Y ns)(g:∀b,v.heap.size<=b->Y b)(d:(ns++nmd t).length+1<=7600000000000):
 κ 36 #[π gW,val] v λu w'=>REn v gW base vM Y ns t u w':=by
 have e:=h c f g d;obtain⟨T0,v0,rfl⟩:=c.iface a;exact QO a e
theorem WN{t:Tr}(d:t≠no)(h:NDS t):RFS t:=by
 intro v gW base vM Y Z ns val g f j c
 have e:∀v',Bl v v'->∀a:Θ,Wt v' gW base vM a ns->(∀b,v'.heap.size<=b->a b)->κ 36 #[π gW,val] v' λu w'=>REn v' gW base vM a ns t u w':=
  λv' m a l k=>Ow d h (g.go m) l k c
 obtain⟨T0,v0,rfl⟩:=g.iface d;by_cases i:(encT t).length<32
 ·exact Ol f j e c i
 ·exact P7 f j e c i
theorem SE(t:Tr):∀{B:Nat},Tr.Ok B t->B<=64->NDS t:=by
 induction t with
 |no=>intro B b;exact b.elim
 |leaf p x=>
  intro B b o v gW base vM Y Z ns val d f j g;obtain⟨r,s,c1,H,I,c2,rfl,a,c,l⟩:=d;exact⟨_,_,_,rfl,Uw _,Ue f a c (by have:=a.len;have:=b.2.1;omega) l⟩
 |ext p t m=>
  intro B b o v gW base vM Y Z ns val d f j g;obtain⟨r,s,c1,u,rfl,a,c⟩:=d;obtain⟨K,J,F,q,C⟩:=b;have n:t≠no:=λe=>by rw[e]at q;simp[isBr]at q
  have D:RFS t:=WN n (m C (by omega));have w:(ns++nmd t).length+1<=7600000000000:=by
   simp only[nmd,Af]at g⊢;omega
  obtain⟨Tu,xu,rfl⟩:=c.iface n;exact⟨_,_,_,rfl,Ux _,Uf f a (by have:=a.len;omega) j (λv' A E z y=>D (c.go A) z y w)⟩
 |br k x m=>
  intro B b o v gW base vM Y Z ns val d f j g;obtain⟨vs,r,s,c1,rfl,a,c,l⟩:=d;refine⟨_,_,_,rfl,Uy _,Uv f a c l j (λi G=>?_) g⟩;rcases b.1 i with h|⟨_,_,h⟩
  ·exact .inl h
  ·exact .inr (WN h.ne (m i h (by omega)))
end
section
open Tr
open Di (dref)
variable {w : World} {gW g c : Nat} {K : Nat → Prop} {a : Option Addr}
def rootP(t:Tr):τ:=if t.isNo then dref [128]else dref (encT t)
theorem Wg.below{v u:Γ}{vN vM:Δ}(h:Wg v u gW vN vM)(a:Bl w v)(d:w.heap.size<=gW)(c:vN.ownBlock=none):Bl w u:=
 Cr a ⟨h.os,h.tape,h.output,h.size,λk b=>h.block k (BQ b a.size) (by omega) (by rw[c];simp)⟩
theorem Wt.new{w':Γ}(h:New w w' gW #[ε] 77):Wt w' gW gW (ε) (λ_=>True) []:=⟨h.row,⟨[],⟨rfl, .inl ⟨rfl,rfl⟩⟩,rfl,λj v a=>by simp at a⟩,Ab _⟩
theorem WO{t:Tr}{T0:TypeId}{v0:Δ}(f:Rw g w #[.iface T0 v0] 71)(d:TA K w t (.iface T0 v0))(B:Tr.Ok 64 t)(x:t≠no)(z:(nmd t).length+1<=7600000000000):
 κ 13 #[π g] w λu w'=>(λu w'=>u=γ (B8 (dref (encT t)))/\Bl w w') u w':=by
 have a:=Bl.refl w;have k:=dref_len (encT t);obtain⟨ds,n⟩:∃ds,dref (encT t)=ds:=⟨_,rfl⟩;rw[n]at k⊢;replace d:=d.old;refine Ck func13 16<|Hn 2 (B8 z32) 44 ?_;intro w1 m j c;replace a:=a.go j.below;replace f:=f.go j.below;replace d:=d.go j.below;have E:=j.hg;refine Hl 8 f 0 69 (.iface T0 v0)<|Hn 8 #[ε] 77 ?_;intro A gW i _;have H:=a.size;replace a:=a.go i.below;replace f:=f.go i.below;replace d:=d.go i.below;replace c:=c.go i.below;have I:=i.hg;have l:=Wt.new i;refine Hl 3 f 0 69 (.iface T0 v0)<|Hc 0 (R:=REn A gW gW (ε) (λ_=>True) [] t) (Ow x (SE t B (by omega)) (d.mono (K':=KW gW (ε) (λ_=>True)) (λb J=>⟨by omega,by simp[Value.ownBlock],trivial⟩)) l (λ_ _=>trivial) (by simpa using z)) ?_;rintro _ s⟨C,D,c2,vM,rfl,p,F,v,G⟩;replace c:=c.wg v l (by decide) (by decide);replace a:=v.below a (by omega) rfl;clear f d l;have M:=p.len;refine Hc 0 (R:=λu w'=>u=γ (B8 ds)/\Bl s w') ((KN C D c2 (encT t) s p.ag (by omega)).mono (λe w' h=>⟨_,by rw[h.1,n],rfl,h.2⟩)) ?_;rintro _ L⟨rfl,q⟩;replace c:=c.go q;replace a:=a.go q;refine Hy 0 (og f13 3 7) m (B8 ds) (λ_=>AM 44 _ _ _ _ _ _ rfl (by kernel_rfl) (by kernel_rfl) c (D5 k) (G7 k) (B8_one _)) ?_;intro r o;replace a:Bl w r:=o.below a (by omega) a.size;have y:Rw m r (B8 ds) 44:=o.row c;exact JI 3 (γ (B8 ds)) (λ_=>Il results13 _ m ds k (by kernel_rfl) y) ⟨_,rfl,rfl,a⟩
theorem Gv{t:Tr}(h:Tri K w g t)(f:(nmd t).length+1<=7600000000000):
 κ 13 #[π g] w λu w'=>u=γ (B8 (rootP t))/\Bl w w':=by
 obtain⟨⟨v,b,c⟩,i⟩:=h;rcases i with rfl|d
 ·rw[show v=ν from c]at b;exact YL b
 ·have a:=d.ne;obtain⟨T0,v0,rfl⟩:=c.iface a;rw[show rootP t=dref (encT t)from by unfold rootP;rw[Ae (λe=>a (isNo_iff.1 e))]];exact WO b c d a f
theorem WP:
 κ 14 #[σ a 0 c] w λu w'=>(λu w'=>u=γ (B8 (dref [128]))/\Bl w w') u w':=by
 have b:=Bl.refl w;have f:=dref_len [128];obtain⟨ds,i⟩:∃ds,dref [128]=ds:=⟨_,rfl⟩;rw[i]at f⊢;refine Ck func14 11 ?_;have p:=b.size;refine Hn 2 (B8 z32) 44 ?_;intro w1 g l d;have o:=l.hg;refine Hc 13 (R:=λu w'=>u=γ (B8 ds)/\Bl (w1) w') ((LC (w1)).mono (λe w' h=>⟨_,by rw[h.1,i],rfl,h.2⟩)) ?_;rintro _ q⟨rfl,j⟩;replace d:=d.go j;refine Hy 0 (og f14 2 1) g (B8 ds) (λ_=>AM 44 _ _ _ _ _ _ rfl (by kernel_rfl) (by kernel_rfl) d (D5 f) (G7 f) (B8_one _)) ?_;intro m k;replace b:=(b.go l.below).go j;replace b:Bl w m:=k.below b (by omega) b.size;have n:Rw g m (B8 ds) 44:=k.row d;exact JI 4 (γ (B8 ds)) (λ_=>Il results14 _ g ds f (by kernel_rfl) n) ⟨_,rfl,rfl,b⟩
theorem Uz{n:Nat}{vs:List (Δ×Δ)}{t:Tr}{l:PList}(F:Rel t l)(M:PAt K w a n c vs l)(I:n<=2600000000000)(X:0<n)(E:∀(j:Nat) k x,l[j]?=some (k,x)->k.length<=1000000)(W:(entsR t).length<=2600000000000)(G:∀v,Bl w v->∀K' a' n' c' vs',PAt K' v a' n' c' vs' (entsR t)->n'<=2600000000000->κ 39 #[σ a' n' c'] v λu w'=>RB7 v t u w'):
 κ 14 #[σ a n c] w λu w'=>(λu w'=>u=γ (B8 (dref (encT t)))/\Bl w w') u w':=by
 have d:=Bl.refl w;have g:=dref_len (encT t);obtain⟨ds,o⟩:∃ds,dref (encT t)=ds:=⟨_,rfl⟩;rw[o]at g⊢;refine Ck func14 11 ?_;have T:=d.size;refine Hn 2 (B8 z32) 44 ?_;intro w1 m q f;have S:=q.hg;refine Hz 7 (n:Int) (0:Int) ?_;replace d:=d.go q.below;refine Hc 8 (R:=λu w'=>(∃a' i c' vs',u=σ a' i c'/\PAt (λb=>K b∨(w1).heap.size<=b) w' a' i c' vs' (entsR t))/\Bl (w1) w') ((W3 (M.go d) I E).mono (λe w'⟨u,N,⟨a',i,c',vs',J,D⟩,P⟩=>⟨u,N,⟨a',i,c',vs',J,by rw[F.ones]at D;exact D⟩,P⟩)) ?_;rintro _ L⟨⟨a1,Z,c1,U,rfl,p⟩,z⟩;have l1:=p.ll;replace d:=d.go z;refine Hc 0 (R:=RB7 L t) (G _ d _ _ _ _ _ p (by omega)) ?_;rintro _ C⟨⟨O,Q,c2,rfl,s,V⟩,y⟩;have l2:=s.len;refine Hc 0 (R:=λu w'=>u=γ (B8 ds)/\Bl C w') ((LA O Q c2 (encT t) C s.ag (by omega)).mono (λe w' h=>⟨_,by rw[h.1,o],rfl,h.2⟩)) ?_;rintro _ Y⟨rfl,A⟩;replace f:=((f.go z).go y).go A;refine Hy 0 (og f14 3 4) m (B8 ds) (λ_=>AM 44 _ _ _ _ _ _ rfl (by kernel_rfl) (by kernel_rfl) f (D5 g) (G7 g) (B8_one _)) ?_;intro B r;replace d:=(d.go y).go A;replace d:Bl w B:=r.below d (by omega) d.size;have H:Rw m B (B8 ds) 44:=r.row f;exact JI 3 (γ (B8 ds)) (λ_=>Il results14 _ m ds g (by kernel_rfl) H) ⟨_,rfl,rfl,d⟩
end
section
open Tr
def kidR(k:Nat->Tr)(i:Nat):PR:=if(k i).isNo then r0 else referP (encT (k i))
theorem Me{ρ:Φ}{w:Γ}{x:Operand}{o:Oper}(c:o.op= .buildSlice 119 1 #[(0,x)])(r:RV)(a:r.d.length=32)(b:ρ x=γ r.cells.toArray):
 (execOp ρ o).run prog w= .ok (.value (σ (some ⟨w.heap.size,0,none⟩) 1 1)) (w.alloc (.cells r.cells.toArray 118)):=by
 unfold execOp;rw[c];simp only[BT,Bd,BY,b,AO,Mc w r a,A4,AV]
theorem PJ{w w':Γ}{v u r:Δ}{ρ:Φ}{o:Oper}(d:∀ty,(Builtin.append_ #[119,119] ty #[v,u]).run prog w= .ok r w')(x y:Operand)(c:o.op= .call {callee:= .builtin .append,args:=#[x,y],argTypes:=#[119,119]})(b:ρ x=v)(a:ρ y=u):(execOp ρ o).run prog w= .ok (.value r) w':=by
 unfold execOp;simp only[c,resolve,invoke,builtin,AO,AV,A4,BT,Bd,BY,b,a,d]
theorem U0(K:Θ)(w:Γ):RefAt K w rz r0:=⟨rfl,rfl,λx a=>by rw[Ce.1 a|>.2];omega,rfl,⟨.inl ⟨rfl,rfl⟩,λ_=>⟨rfl,rfl⟩,rfl,λx a=>by cases a⟩,A8 _,λg off h=>by cases h⟩
theorem Nl(k:Nat->Tr)(i:Nat):(List.range (i+1)).map (kidR k)=(List.range i).map (kidR k)++[kidR k i]:=by rw[CO,Bp];rfl
theorem WQ{l:PList}{e:τ×τ}{j:Nat}(a:l[j]?=some e):valP [] (l.take (j+1))=if e.1=[]then e.2 else valP [] (l.take j):=by
 unfold valP;rw[BP,a,List.foldl_append];rfl
theorem WR{K:Θ}{w:Γ}{a:Ω}{n c:Nat}{vs:List (Δ×Δ)}{k:Nat->Tr}{x:τ}{B:Nat}(hO:Tr.Ok B (br k x))(hl:PAt K w a n c vs (entsR (br k x)))(F:n<=2600000000000)(ba:∀(j:Nat) q y,(entsR (br k x))[j]?=some (q,y)->q.length<=1000000)(b4:x.length<=256)(bp:∀i,k i≠no->∀v,Bl w v->∀K' a' n' c' vs',PAt K' v a' n' c' vs' (entsR (k i))->n'<=2600000000000->κ 39 #[σ a' n' c'] v λu w'=>RB7 v (k i) u w'):
 κ 67 #[σ a n c] w λu w'=>RN7 w (br k x) u w':=by
 have d:=Bl.refl w;have ll:=hl.ll;have b8:=W2 hO;have bk:0<n:=by omega
 refine Ck func67 78<|Hn 2 nz.cells.toArray 121 ?_;intro wN gN a6 g;have b2:=a6.hg;have bw:=d.size;refine Hz 7 (n:Int) (1:Int) ?_;replace d:=d.go a6.below;refine Hc 8 (R:=λu w'=>u=ι 0/\Bl (wN) w') ((MS (hl.go d) F bk ba).mono (λe w'⟨u,e1,I,L⟩=>⟨u,e1,by rw[I,Pq hO];rfl,L⟩)) ?_;rintro _ u1⟨rfl,ay⟩;refine Hx 15 (og f67 6 0) (γ (NV.cells ⟨3,none,0,0,none,0,0,rz,none,0,0⟩).toArray) (λ_=>ol_build 121 _ [(0,ι 3)] _ rfl (by kernel_rfl) (by kernel_rfl)) ?_;replace g:=g.go ay;have b6:=lt_of_get g;refine Hn 0 nz.cells.toArray 121 ?_;intro wB gB ap f;have cb:=ap.hg;replace d:=d.go ay;have b0:=d.size;refine Hy 0 (og f67 6 2) gB ((NV.cells ⟨3,none,0,0,none,0,0,rz,none,0,0⟩).toArray) (λ_=>AM 121 _ _ _ _ _ _ rfl (by kernel_rfl) (by kernel_rfl) f (by kernel_rfl) (by kernel_rfl) (by kernel_rfl)) ?_;intro w2 m;replace d:=d.go ap.below;replace d:Bl w w2:=m.below d (by omega) d.size;replace g:=g.go ap.below;replace g:=(show Rw _ _ _ _ from(m.other (by omega)).trans g);replace f:Rw gB w2 ((NV.cells ⟨3,none,0,0,none,0,0,rz,none,0,0⟩).toArray) 121:=m.row f;have bz:=lt_of_get f;refine Ho (X:=Nat×Ω×Nat×Nat) 9 (λz=>[(5,ι ((z.1:Nat):Int)),(2,π gN),(4,π gB),(0,σ a n c)]) (λz v=>Bl w v/\Rw gN v nz.cells.toArray 121/\Rw gB v (NV.cells ⟨3,none,0,0,none,0,0,rz,z.2.1,z.2.2.1,z.2.2.2⟩).toArray 121/\SoR (gB+1) v (σ z.2.1 z.2.2.1 z.2.2.2) ((List.range z.1).map (kidR k))/\z.1<=16) (λz=>16-z.1) (0,none,0,0) ⟨d,g,f,SA _ _,A8 _⟩ ?_;clear d g f;rintro⟨i,A,kn,C⟩ v⟨d,g,f,o,hi⟩ I1 a5;simp only at d g f o hi;by_cases r:i<16
 ·skip
  have ca:=lt_of_get f;have l:=Bl.refl v;have aw:=o;have E:=d;have aq:=g;have ar:=f;by_cases ac:k i=no
  ·skip
   refine Ht 4 ((i:Int)<(16:Int))<|Hc 11 (R:=λu w'=>(∃a' J c' vs',u=σ a' J c'/\PAt (λb=>K b∨(v).heap.size<=b) w' a' J c' vs' (entsR (k i)))/\Bl (v) w') ((under_any (hl.go d) F i r).mono (λe w'⟨u,e1,⟨a',J,c',vs',I,L⟩,e4⟩=>⟨u,e1,⟨a',J,c',vs',I,by rw[under_br k x r]at L;exact L⟩,e4⟩)) ?_;rintro _ u3⟨⟨a8,m8,c8,bc,rfl,P⟩,G⟩;have l8:=P.ll;have ak:=Io (i:Int) (entsR (br k x));rw[under_br k x r]at ak;refine Hx 5 (og f67 11 0) (γ rz.cells.toArray) (λ_=>ol_build 118 _ [] _ rfl (by kernel_rfl) (by kernel_rfl)) ?_;replace l:=l.go G;have a7:=l.size;refine Hn 0 rz.cells.toArray 118 ?_;intro wR Q D p;have bn:=D.hg;replace d:=d.go G;have bb:=d.size;refine Hy 0 (og f67 11 2) Q rz.cells.toArray (λ_=>AM 118 _ _ _ _ _ _ rfl (by kernel_rfl) (by kernel_rfl) p (by kernel_rfl) (by kernel_rfl) (by kernel_rfl)) ?_;intro W m;replace d:=d.go D.below;replace d:Bl w W:=m.below d (by omega) d.size;replace g:=(g.go G).go D.below;replace g:=(show Rw _ _ _ _ from(m.other (by omega)).trans g);replace f:=(f.go G).go D.below;replace f:=(show Rw _ _ _ _ from(m.other (by omega)).trans f);replace l:=l.go D.below;replace l:Bl v W:=m.below l (by omega) l.size;replace p:Rw Q W rz.cells.toArray 118:=m.row p;refine Hb 7 (decide ((m8:Int)>(0:Int))) false (Bi (by rw[ac]at l8;simp[entsR]at l8;omega)) ?_;have al:RefAt (λb=>v.heap.size<=b) W rz (kidR k i):=(by unfold kidR;rw[Ai (isNo_iff.2 ac)];exact U0 _ _);refine Hl 7 f 37 119 (σ A kn C)<|Hx 0 (og f67 14 2) (γ rz.cells.toArray) (λ_=>BW 118 _ _ _ _ _ _ rfl (by kernel_rfl) p υ118 rfl (CD rfl))<|Hx 0 (og f67 14 3) (σ (some ⟨W.heap.size,0,none⟩) 1 1) (λ_=>Me rfl rz rfl (by kernel_rfl)) ?_;obtain⟨vT,H,ao,ae,s⟩:=KS (base:=gB+1) (by omega) aw l al (by simp;omega) 0;refine Hx 0 (og f67 14 4) vT (λ_=>PJ (λty=>(show(Builtin.append_ #[119,119] ty #[σ A kn C,σ (some ⟨W.heap.size,0,none⟩) 1 1]).run prog _= .ok vT H from ao)) _ _ rfl (by kernel_rfl) (by kernel_rfl)) ?_;obtain⟨N,O,I,_⟩:=ae.kids;subst I;have o:=ae;have bj:=E.size;replace g:Rw gN H nz.cells.toArray 121:=(s.block gN (by omega)).trans aq;replace f:Rw gB H (NV.cells ⟨3,none,0,0,none,0,0,rz,A,kn,C⟩).toArray 121:=(s.block gB (by omega)).trans ar;replace d:Bl w H:=⟨s.os.trans E.os,s.tape.trans E.tape,s.output.trans E.output,Au E.size s.size,λq M=>(s.block q (by omega)).trans (E.block q M)⟩;clear l p;refine Ha 1 (og f67 14 6) gB 37 (σ N ((List.range i).map (kidR k)++[kidR k i]).length O) (λ_=>ol_setC 119 _ _ gB 37 _ 121 _ f rfl (by kernel_rfl) (by kernel_rfl) (by show 37<38;omega) rfl rfl (by kernel_rfl)) ?_;intro w5 t;replace f:Rw gB w5 (NV.cells ⟨3,none,0,0,none,0,0,rz,N,((List.range i).map (kidR k)++[kidR k i]).length,O⟩).toArray 121:=f.set t (by kernel_rfl);replace d:Bl w w5:=t.touch.below d (by omega) d.size;refine Hi 5 ((i:Int)+1) ((i:Int)+1) ?_;replace g:=g.apart t (by omega);replace o:=o.keep (λb F r=>t.touch.block b r (by omega));exact a5 2 (i+1,N,((List.range i).map (kidR k)++[kidR k i]).length,O) ⟨d,g,f,by show SoR _ _ _ ((List.range (i+1)).map _);rw[Nl];exact o,by show i+1<=16;omega⟩ (by show 16-(i+1)<16-i;omega) (λ_=>by kernel_rfl)
  ·skip
   have bo:Tr.Ok (B-1) (k i):=(by rcases hO.1 i with e|e;exact absurd e ac;exact e.2.2);have bx:=BH.2 (KP _ bo);refine Ht 4 ((i:Int)<(16:Int))<|Hc 11 (R:=λu w'=>(∃a' J c' vs',u=σ a' J c'/\PAt (λb=>K b∨(v).heap.size<=b) w' a' J c' vs' (entsR (k i)))/\Bl (v) w') ((under_any (hl.go d) F i r).mono (λe w'⟨u,e1,⟨a',J,c',vs',I,L⟩,e4⟩=>⟨u,e1,⟨a',J,c',vs',I,by rw[under_br k x r]at L;exact L⟩,e4⟩)) ?_;rintro _ u6⟨⟨a8,m8,c8,bc,rfl,P⟩,G⟩;have l8:=P.ll;have ak:=Io (i:Int) (entsR (br k x));rw[under_br k x r]at ak;refine Hx 5 (og f67 11 0) (γ rz.cells.toArray) (λ_=>ol_build 118 _ [] _ rfl (by kernel_rfl) (by kernel_rfl)) ?_;replace l:=l.go G;have a7:=l.size;refine Hn 0 rz.cells.toArray 118 ?_;intro wR Q D p;have bn:=D.hg;replace d:=d.go G;have bb:=d.size;refine Hy 0 (og f67 11 2) Q rz.cells.toArray (λ_=>AM 118 _ _ _ _ _ _ rfl (by kernel_rfl) (by kernel_rfl) p (by kernel_rfl) (by kernel_rfl) (by kernel_rfl)) ?_;intro w7 m;replace d:=d.go D.below;replace d:Bl w w7:=m.below d (by omega) d.size;replace g:=(g.go G).go D.below;replace g:=(show Rw _ _ _ _ from(m.other (by omega)).trans g);replace f:=(f.go G).go D.below;replace f:=(show Rw _ _ _ _ from(m.other (by omega)).trans f);replace l:=l.go D.below;replace l:Bl v w7:=m.below l (by omega) l.size;replace p:Rw Q w7 rz.cells.toArray 118:=m.row p;refine Ht 7 ((m8:Int)>(0:Int)) ?_;replace P:=(P.old.go D.below).tou m.touch (λh=>by have:=h.2;omega);refine Hc 5 (R:=RB7 (w7) (k i)) (bp i ac _ d _ _ _ _ _ P (by omega)) ?_;rintro _ u9⟨⟨a9,m9,c9,rfl,a4,b3⟩,ad⟩;clear P;have l9:=a4.len;refine Hc 0 (R:=λu w'=>(∃y:RV,u=γ y.cells.toArray/\RefAt (Own u9.heap.size w') w' y (referP (encT (k i))))/\Bl u9 w') (Sz a4 (by omega)) ?_;rintro _ b5⟨⟨y,rfl,am⟩,aa⟩;replace l:=l.go ad;have bv:=l.size;replace p:=p.go ad;have b1:=lt_of_get p;have ai:y.d.length=32:=(by rw[am.2.1];exact am.2.2.2.1);replace p:=p.go aa;refine Hy 0 (og f67 13 3) Q y.cells.toArray (λ_=>AM 118 _ _ _ _ _ _ rfl (by kernel_rfl) (by kernel_rfl) p (CD ai) (by rw[Ba,Ba,RV.len ai];rfl) (Am (RV.one y))) ?_;intro Y m;replace d:=(d.go ad).go aa;replace d:Bl w Y:=m.below d (by omega) d.size;replace g:=(g.go ad).go aa;replace g:=(show Rw _ _ _ _ from(m.other (by omega)).trans g);replace f:=(f.go ad).go aa;replace f:=(show Rw _ _ _ _ from(m.other (by omega)).trans f);replace l:=l.go aa;replace l:Bl v Y:=m.below l (by omega) l.size;replace p:Rw Q Y y.cells.toArray 118:=m.row p;have al:RefAt (λb=>v.heap.size<=b) Y y (kidR k i):=(by unfold kidR;rw[Ae (λe=>ac (isNo_iff.1 e))];exact RefAt.go (λb F _=>⟨m.other (by have:=F.1;omega),Au bv F.1⟩) am);refine Hl 4 f 37 119 (σ A kn C)<|Hx 0 (og f67 14 2) (γ y.cells.toArray) (λ_=>BW 118 _ _ _ _ _ _ rfl (by kernel_rfl) p υ118 rfl (CD ai))<|Hx 0 (og f67 14 3) (σ (some ⟨Y.heap.size,0,none⟩) 1 1) (λ_=>Me rfl y ai (by kernel_rfl)) ?_;obtain⟨vT,H,ao,ae,s⟩:=KS (base:=gB+1) (by omega) aw l al (by simp;omega) 0;refine Hx 0 (og f67 14 4) vT (λ_=>PJ (λty=>(show(Builtin.append_ #[119,119] ty #[σ A kn C,σ (some ⟨Y.heap.size,0,none⟩) 1 1]).run prog _= .ok vT H from ao)) _ _ rfl (by kernel_rfl) (by kernel_rfl)) ?_;obtain⟨N,O,I,_⟩:=ae.kids;subst I;have o:=ae;have bj:=E.size;replace g:Rw gN H nz.cells.toArray 121:=(s.block gN (by omega)).trans aq;replace f:Rw gB H (NV.cells ⟨3,none,0,0,none,0,0,rz,A,kn,C⟩).toArray 121:=(s.block gB (by omega)).trans ar;replace d:Bl w H:=⟨s.os.trans E.os,s.tape.trans E.tape,s.output.trans E.output,Au E.size s.size,λq M=>(s.block q (by omega)).trans (E.block q M)⟩;clear l p;refine Ha 1 (og f67 14 6) gB 37 (σ N ((List.range i).map (kidR k)++[kidR k i]).length O) (λ_=>ol_setC 119 _ _ gB 37 _ 121 _ f rfl (by kernel_rfl) (by kernel_rfl) (by show 37<38;omega) rfl rfl (by kernel_rfl)) ?_;intro w9 t;replace f:Rw gB w9 (NV.cells ⟨3,none,0,0,none,0,0,rz,N,((List.range i).map (kidR k)++[kidR k i]).length,O⟩).toArray 121:=f.set t (by kernel_rfl);replace d:Bl w w9:=t.touch.below d (by omega) d.size;refine Hi 5 ((i:Int)+1) ((i:Int)+1) ?_;replace g:=g.apart t (by omega);replace o:=o.keep (λb F r=>t.touch.block b r (by omega));exact a5 2 (i+1,N,((List.range i).map (kidR k)++[kidR k i]).length,O) ⟨d,g,f,by show SoR _ _ _ ((List.range (i+1)).map _);rw[Nl];exact o,by show i+1<=16;omega⟩ (by show 16-(i+1)<16-i;omega) (λ_=>by kernel_rfl)
 obtain rfl:i=16:=by omega
 refine Hf 4 (((16:Nat):Int)<(16:Int))<|Ho (X:=Nat×Ω×Nat×Nat) 15 (λz=>[(8,ι ((z.1:Nat):Int)),(2,π gN),(4,π gB),(0,σ a n c)]) (λz v=>Bl w v/\Rw gN v nz.cells.toArray 121/\Rw gB v (NV.cells ⟨3,none,0,0,z.2.1,z.2.2.1,z.2.2.2,rz,A,kn,C⟩).toArray 121/\SoR (gB+1) v (σ A kn C) ((List.range 16).map (kidR k))/\Sk (λ_=>True) w z.2.1 z.2.2.1 z.2.2.2 (valP [] ((entsR (br k x)).take z.1))/\z.1<=n) (λz=>n-z.1) (0,none,0,0) ⟨d,g,f,o,Sk.nil _ _,A8 _⟩ ?_;clear d g f o;rintro⟨j,T,U,Z⟩ v⟨d,g,f,o,ab,hj⟩ I2 av;simp only at d g f o ab hj;by_cases r:j<n
 ·skip
  obtain⟨V,S,a1,n1,c1,a2,n2,c2,q,z,ea,bq,aj,ax,bm,bf⟩:=hl.at r;subst ea;have lq:=bm.len;have af:=WQ bq;by_cases M:q=[]
  ·skip
   rw[Ai M]at af;refine Ht 6 ((j:Int)<(n:Int))<|Hx 11 (og f67 18 2) (ψ V (S+j*2)) (λ_=>AW 60 _ _ V S j n c 2 97 rfl (by kernel_rfl) (by kernel_rfl) r υ60 (by kernel_rfl))<|Hx 1 (og f67 18 4) (σ a1 n1 c1) (λ_=>AY 32 _ _ _ _ rfl (by kernel_rfl) ((Ca d (Al aj)).trans aj) υ32 rfl)<|Hb 1 ((n1:Int)==(0:Int)) true (Ee.2 (by rw[M]at lq;simp at lq;omega))<|Hx 6 (og f67 19 2) (ψ V (S+j*2)) (λ_=>AW 60 _ _ V S j n c 2 97 rfl (by kernel_rfl) (by kernel_rfl) r υ60 (by kernel_rfl))<|Hx 1 (og f67 19 4) (σ a2 n2 c2) (λ_=>AY 32 _ _ _ _ rfl (by kernel_rfl) ((Ca d (Al ax)).trans ax) υ32 rfl)<|Ha 1 (og f67 19 6) gB 2 (σ a2 n2 c2) (λ_=>ol_setC 32 _ _ gB 2 _ 121 _ f rfl (by kernel_rfl) (by kernel_rfl) (by show 2<38;omega) rfl rfl (by kernel_rfl)) ?_;intro a3 t;replace f:Rw gB a3 (NV.cells ⟨3,none,0,0,a2,n2,c2,rz,A,kn,C⟩).toArray 121:=f.set t (by kernel_rfl);replace d:Bl w a3:=t.touch.below d (by omega) d.size;refine Hi 5 ((j:Int)+1) ((j:Int)+1) ?_;replace g:=g.apart t (by omega);replace o:=o.keep (λb F r=>t.touch.block b r (by omega));exact av 2 (j+1,a2,n2,c2) ⟨d,g,f,o,by show Sk _ _ _ _ _ (valP [] (List.take (j+1) _));rw[af];exact bf.mono (λ_ _=>trivial),by show j+1<=n;omega⟩ (by show n-(j+1)<n-j;omega) (λ_=>by kernel_rfl)
  ·skip
   have b9:=BH.2 M;rw[Ae M]at af;refine Ht 6 ((j:Int)<(n:Int))<|Hx 11 (og f67 18 2) (ψ V (S+j*2)) (λ_=>AW 60 _ _ V S j n c 2 97 rfl (by kernel_rfl) (by kernel_rfl) r υ60 (by kernel_rfl))<|Hx 1 (og f67 18 4) (σ a1 n1 c1) (λ_=>AY 32 _ _ _ _ rfl (by kernel_rfl) ((Ca d (Al aj)).trans aj) υ32 rfl)<|Hz 1 (n1:Int) (0:Int)<|Hi 8 ((j:Int)+1) ((j:Int)+1) ?_;exact av 2 (j+1,T,U,Z) ⟨d,g,f,o,by show Sk _ _ _ _ _ (valP [] (List.take (j+1) _));rw[af];exact ab,by show j+1<=n;omega⟩ (by show n-(j+1)<n-j;omega) (λ_=>by kernel_rfl)
 obtain rfl:j=n:=by omega
 rw[A9 (by omega),val_br]at ab;refine Hf 6 ((j:Int)<(j:Int))<|Hx 10 (og f67 20 0) (γ (NV.cells ⟨3,none,0,0,T,U,Z,rz,A,kn,C⟩).toArray) (λ_=>BW 121 _ _ _ _ _ _ rfl (by kernel_rfl) f υ121 rfl (by kernel_rfl))<|Hy 0 (og f67 20 1) gN ((NV.cells ⟨3,none,0,0,T,U,Z,rz,A,kn,C⟩).toArray) (λ_=>AM 121 _ _ _ _ _ _ rfl (by kernel_rfl) (by kernel_rfl) g (by kernel_rfl) (by kernel_rfl) (by kernel_rfl)) ?_;intro az m;replace d:Bl w az:=m.below d (by omega) d.size;replace g:Rw gN az ((NV.cells ⟨3,none,0,0,T,U,Z,rz,A,kn,C⟩).toArray) 121:=m.row g;replace f:=(show Rw _ _ _ _ from(m.other (by omega)).trans f);replace o:=o.keep (λb F _=>m.other (by omega));obtain⟨cc,b7,L,bu,bl,a0,bg⟩:=o.kids;injection L with bi ah bh;subst bi;subst bh;have lx:=ab.len;exact JI 3 (γ (NV.cells ⟨3,none,0,0,T,U,Z,rz,A,kn,C⟩).toArray) (λ_=>FE results67 _ gN ⟨3,none,0,0,T,U,Z,rz,A,kn,C⟩ rfl (by kernel_rfl) g) ⟨_,rfl,⟨_,rfl,⟨rfl,KR _,(ab.go d).agk (by omega),GW _,⟨ah,(by rw[ah];exact bu),bl,(by rw[ah];simp),λh=>⟨ah.trans (a0 h).1,(a0 h).2⟩⟩,KidsAt.go (λb F _=>⟨rfl,trivial⟩) bg⟩⟩,d⟩
end
section
open Tr
open Di (dref)
theorem U1:∀(t:Tr)(B:Nat),Tr.Ok B t->B<=64->(∀q y,(q,y)∈entsR t->q.length<=1000/\y.length<=256)->∀(K:Θ)(w:Γ)(a:Ω)(n c:Nat)(vs:List (Δ×Δ)),PAt K w a n c vs (entsR t)->n<=2600000000000->
 κ 39 #[σ a n c] w λu w'=>RB7 w t u w':=by
 intro t
 induction t with
 |no=>intro B d;exact d.elim
 |leaf p x=>
  intro B d s b K w a n c vs f l;have g:n=1:=f.ll.symm;subst g;obtain⟨D,C⟩:=b p x (by simp[entsR]);exact Kb (by simp) (QR f D C)
 |ext p t o=>
  intro B d s b K w a n c vs f l;refine Kb (by simp) (Ug d s f l (λj k x h=>by have:=(b k x (AL h)).1;omega) ?_);intro v _ K' a' n' c' vs' r g;refine o (B-p.length) d.2.2.2.2 (by omega) (λq y m=>?_) K' v a' n' c' vs' r g;have:=b (p++q) y (by simp only[entsR,BC];exact⟨(q,y),m,rfl⟩);rw[Af]at this;omega
 |br k x o=>
  intro B d s b K w a n c vs f l;have F:x.length<=256:=by
   by_cases h:x=[]
   ·rw[h];simp
   ·exact(b [] x (by simp only[entsR];rw[Ae h];simp)).2
  refine Kb (by simp) (WR d f l (λj q y h=>by have:=(b q y (AL h)).1;omega) F ?_);intro i E v _ K' a' n' c' vs' r g;rcases d.1 i with e|⟨z,G,A⟩
  ·exact absurd e E
  ·refine o i (B-1) A (by omega) (λq y m=>?_) K' v a' n' c' vs' r g
   have:=b ((i:Int)::q) y (by
    simp only[entsR,AP,Cv,Da,BC];exact .inr ⟨i,z,(q,y),m,rfl⟩)
   rw[AE]at this;omega
theorem Rel.small{t:Tr}{l:PList}(h:Rel t l):∀q y,(q,y)∈entsR t->q.length<=1000/\y.length<=256:=by
 intro q y a;rw[<-h.ones]at a;obtain⟨⟨k,x⟩,b,c⟩:=BC.1 a;cases c;have d:=((h.m k x).1 b).2.1;exact⟨by rw[Ni.nib_len];show 2*k.length<=1000;omega,h.v k x b⟩
theorem U2{K:Θ}{w:Γ}{a:Ω}{n c:Nat}{vs:List (Δ×Δ)}{t:Tr}{l:PList}(b:Rel t l)(g:PAt K w a n c vs l)(q:n<=2600000000000):
 κ 14 #[σ a n c] w λu w'=>u=γ (B8 (rootP t))/\Bl w w':=by
 have p:=g.ll;have m:(entsR t).length=n:=by rw[<-b.ones];unfold onesP;rw[AQ];exact p
 rcases b.ok with rfl|d
 ·have f:n=0:=m.symm;subst f;exact WP
 ·have i:=d.ne;have r:=BH.2 (KP _ d);rw[show rootP t=dref (encT t)from by unfold rootP;rw[Ae (λe=>i (isNo_iff.1 e))]];exact Uz b g q (by omega) (λj k x h=>by have:=((b.m k x).1 (AL h)).2.1;omega) (by omega) (λv _ K' a' n' c' vs' o f=>U1 t 64 d (Ab _) b.small K' v a' n' c' vs' o f)
end
section
open Tr
variable {K K' : Nat → Prop} {w : World} {a ak : Option Addr} {n c : Nat} {vs : List (Value × Value)} {k : List Int}
theorem U3{l:PList}(d:PAt K w a n c vs l){nk ck:Nat}(f:Sk K' w ak nk ck k)(o:n<=2600000000000)(g:∀(j:Nat) k x,l[j]?=some (k,x)->k.length<=1000000)(p:32<nk):
 κ 25 #[σ a n c,σ ak nk ck] w λu w'=>(λu w'=>(∃a n c vs,u=θ #[σ a n c,β (if k.length<=32 then isAt k l else false),ι (if k.length<=32 then 0 else 70)]/\PAt (λb=>K b∨w.heap.size<=b) w' a n c vs (delL l k))/\Bl w w') u w':=by
 have e:=Bl.refl w;have i:=f.len;have m:=d.ll;refine Ck func25 34<|Ht 12 ((nk:Int)>(32:Int)) ?_;exact Hr 13 (θ #[σ a n c,β false,ι 70]) ⟨_,rfl,⟨a,n,c,vs,by rw[Ae (by omega),Ae (by omega)],by rw[show delL l k=l from Ae (by omega)];exact(d.go e).mono (λ_ h=> .inl h)⟩,e⟩
theorem WT{l:PList}(e:PAt K w a n c vs l){nk ck:Nat}(g:Sk K' w ak nk ck k)(o:n<=2600000000000)(i:∀(j:Nat) k x,l[j]?=some (k,x)->k.length<=1000000)(r:nk<=32)(f:isAt k l=false):
 κ 25 #[σ a n c,σ ak nk ck] w λu w'=>(λu w'=>(∃a n c vs,u=θ #[σ a n c,β (if k.length<=32 then isAt k l else false),ι (if k.length<=32 then 0 else 70)]/\PAt (λb=>K b∨w.heap.size<=b) w' a n c vs (delL l k))/\Bl w w') u w':=by
 have d:=Bl.refl w;have p:=g.len;have q:=e.ll;refine Ck func25 34<|Hf 12 ((nk:Int)>(32:Int))<|Hc 9 (R:=λu w'=>u=θ #[ι ((atN k l:Nat):Int),β (isAt k l)]/\Bl (w) w') ((JQ (e.go d) (g.go d) o i)) ?_;rintro _ s⟨rfl,m⟩;rw[f];replace d:=d.go m;exact Hr 25 (θ #[σ a n c,β false,ι 0]) ⟨_,rfl,⟨a,n,c,vs,by rw[Ai (by omega),Ai (by omega)],by rw[show delL l k=l from by unfold delL;rw[Ai (by omega),LH,f];rfl];exact(e.go d).mono (λ_ h=> .inl h)⟩,d⟩
theorem Zi{l:PList}(m:PAt K w a n c vs l){nk ck:Nat}(t:Sk K' w ak nk ck k)(f:n<=2600000000000)(y:∀(j:Nat) k x,l[j]?=some (k,x)->k.length<=1000000)(hn:nk<=32)(i:isAt k l=true):
 κ 25 #[σ a n c,σ ak nk ck] w λu w'=>(λu w'=>(∃a n c vs,u=θ #[σ a n c,β (if k.length<=32 then isAt k l else false),ι (if k.length<=32 then 0 else 70)]/\PAt (λb=>K b∨w.heap.size<=b) w' a n c vs (delL l k))/\Bl w w') u w':=by
 have d:=Bl.refl w;have lk:=t.len;have ll:=m.ll;refine Ck func25 34<|Hf 12 ((nk:Int)>(32:Int))<|Hc 9 (R:=λu w'=>u=θ #[ι ((atN k l:Nat):Int),β (isAt k l)]/\Bl (w) w') ((JQ (m.go d) (t.go d) f y)) ?_;rintro _ u1⟨rfl,G⟩;rw[i];have aa:=LF k l;have o:=m.old;have Z:atN k l<n:=by by_cases h:atN k l<n;exact h;rw[J0 (by omega)]at i;cases i
 refine M6 19 #[] 55 0 ?_;intro w0 S r _;replace d:=d.go G;have g:OwnL (λb=>K b∨w.heap.size<=b) w0 w.heap.size (σ (ζ S 0) 0 0) []:=OwnL.new r d.size (λb f=> .inr f);replace d:=d.go r.below;obtain⟨W,X,c1,M,q⟩:=(o.go d).cutTo (atN k l) (by omega);refine Hx 2 (og f25 6 3) (σ W X c1) (λ_=>M _ _ _ _ _ rfl (by kernel_rfl) (by kernel_rfl)) ?_;have D:=q.ll;obtain⟨P,O,E,J,A⟩:=Pm g q (λb f=>⟨λe=>by have:=(g.own b e).1;have:=f.2;omega, .inl f.1⟩) (by rw[Ap]at D;simp;omega) d.size;refine Hx 0 (og f25 6 4) P (λ_=>FY E _ _ rfl (by kernel_rfl) (by kernel_rfl)) ?_;replace d:Bl w O:=Cr d A;replace g:=J;rw[AH]at g;refine Hw 8 (ι (IntKind.i64.wrap (((atN k l:Nat):Int)+1))) (ι ((atN k l+1:Nat):Int)) (Ao (Value.int .i64) (by rw[Cy (by omega) (by omega)];omega)) ?_;obtain⟨T,Q,c3,L,p⟩:=(o.go d).cutFrom (atN k l+1) (by omega);refine Hx 0 (og f25 7 4) (σ T Q c3) (λ_=>L _ _ _ _ _ rfl (by kernel_rfl) (by kernel_rfl)) ?_;have I:=p.ll;obtain⟨N,Y,B,H,F⟩:=Pm g p (λb f=>⟨λe=>by have:=(g.own b e).1;have:=f.2;omega, .inl f.1⟩) (by rw[A3]at I;simp;omega) d.size;refine Hx 0 (og f25 7 5) N (λ_=>FY B _ _ rfl (by kernel_rfl) (by kernel_rfl)) ?_;replace d:Bl w Y:=Cr d F;replace g:=H;have z:delL l k=l.take (atN k l)++l.drop (atN k l+1):=by unfold delL;rw[Ai (by omega),LH,i];rfl
 rw[<-z]at g;obtain⟨v,s,C,V,U⟩:=g.pat
 subst V;exact Hr 6 (θ #[σ v (delL l k).length s,β true,ι 0]) ⟨_,rfl,⟨v,_,s,C,by rw[Ai (by omega),Ai (by omega)],U⟩,d⟩
theorem WU{l:PList}(h:PAt K w a n c vs l){nk ck:Nat}(f:Sk K' w ak nk ck k)(g:n<=2600000000000)(d:∀(j:Nat) k x,l[j]?=some (k,x)->k.length<=1000000):
 κ 25 #[σ a n c,σ ak nk ck] w λu w'=>(λu w'=>(∃a n c vs,u=θ #[σ a n c,β (if k.length<=32 then isAt k l else false),ι (if k.length<=32 then 0 else 70)]/\PAt (λb=>K b∨w.heap.size<=b) w' a n c vs (delL l k))/\Bl w w') u w':=by
 by_cases i:nk<=32
 ·rcases Bool.eq_false_or_eq_true (isAt k l)with e|e
  ·exact Zi h f g d i e
  ·exact WT h f g d i e
 ·exact U3 h f g d (by omega)
end
section
open Ni (lessP FK)
variable {P : Program} {K K' : Nat → Prop} {w : World} {a a' : Option Addr} {n c n' c' : Nat} {p q : List Int}
theorem loadBytes_run{P:Program}{w:Γ}{gb:Nat}:∀(bs:τ)(off:Nat)(a:ByteArray),(∀j,j<bs.length->w.cell? ⟨gb,off+j,none⟩=some (η (bs.getD j 0)))->(Extern.Bytes.loadBytes ⟨gb,off,none⟩ bs.length a).run P w= .ok ⟨a.data++(Lib.bytesOf bs).toArray⟩ w
 |[],off,a,h=>by
  obtain⟨d⟩:=a;simp[Extern.Bytes.loadBytes,Lib.bytesOf]
 |x::r,off,a,h=>by
  have b:=h 0 (by simp);rw[Cz]at b;have e:(Extern.Bytes.loadBytes ⟨gb,off,none⟩ (x::r).length a).run P w=(Extern.Bytes.loadBytes ⟨gb,off+1,none⟩ r.length (a.push x.toNat.toUInt8)).run P w:=by
   rw[AE,Extern.Bytes.loadBytes,AO,run_load,b];simp only[List.getD_cons_zero,Result.andThen];rfl
  rw[e,loadBytes_run r (off+1) (a.push x.toNat.toUInt8) (λj c=>by
   have:=h (j+1) (by simp;omega);rw[show off+1+j=off+(j+1)from by omega,this];simp)]
  obtain⟨d⟩:=a;simp[Lib.bytesOf,ByteArray.push,Nat.toUInt8]
theorem bytesOf_run(h:Sk K w a n c p):(Extern.Bytes.bytesOf (σ a n c)).run P w= .ok ⟨(Lib.bytesOf p).toArray⟩ w:=by
 have e:=h.len;rcases h.ag.i with⟨b,d⟩|⟨gb,off,b,d,l,g,k,f⟩
 ·subst b;subst d;cases a with
  |none=>rfl
  |some ad=>rfl
 ·subst b;have:=loadBytes_run (P:=P) p off ByteArray.empty (λj i=>f j (by omega));rw[e]at this;show(Extern.Bytes.loadBytes ⟨gb,off,none⟩ n ByteArray.empty).run P w=_;rw[this];show Result.ok (⟨(#[]:Array UInt8)++(Lib.bytesOf p).toArray⟩:ByteArray) w=_;rw[EJ]
theorem u8_lt{x y:Int}(b:0<=x/\x<256)(a:0<=y/\y<256):(UInt8.ofNat x.toNat<UInt8.ofNat y.toNat)↔x<y:=by
 rw[UInt8.lt_iff_toNat_lt,D8,D8];omega
theorem cmpB_eq:∀p q:τ,(∀x∈p,0<=x/\x<256)->(∀x∈q,0<=x/\x<256)->Lib.compareBytes (Lib.bytesOf p) (Lib.bytesOf q)=cmpP p q
 |[],[],_,_=>rfl
 |[],y::q,_,_=>by simp[Lib.bytesOf,Lib.compareBytes,cmpP,lessP]
 |x::p,[],_,_=>by simp[Lib.bytesOf,Lib.compareBytes,cmpP,lessP]
 |x::p,y::q,d,f=>by
  have i:=d x (by simp);have g:=f y (by simp);have j:=cmpB_eq p q (λz c=>d z (Az _ c)) (λz c=>f z (Az _ c));have e:Lib.compareBytes (Lib.bytesOf (x::p)) (Lib.bytesOf (y::q))=if UInt8.ofNat x.toNat<UInt8.ofNat y.toNat then-1 else if UInt8.ofNat y.toNat<UInt8.ofNat x.toNat then 1 else Lib.compareBytes (Lib.bytesOf p) (Lib.bytesOf q):=rfl
  rw[e,j];simp only[u8_lt i g,u8_lt g i];by_cases h:x=y
  ·subst h;have b:cmpP (x::p) (x::q)=cmpP p q:=by
    unfold cmpP;simp[lessP]
   rw[b];simp
  ·have b:cmpP (x::p) (y::q)=if x<y then-1 else 1:=by
    unfold cmpP;simp[lessP,h]
   rw[b];by_cases a:x<y
   ·simp[a]
   ·rw[Ae a,Ae a,Ai (by omega)]
theorem cmp_run(b:Sk K w a n c p)(d:Sk K' w a' n' c' q):(Extern.BytealgCompare.compare #[σ a n c,σ a' n' c']).run P w= .ok (ι (cmpP p q)) w:=by
 change Sem.run P (do pure (goInt (Extern.BytealgCompare.cmp (<-Extern.Bytes.bytesOf (σ a n c)) (<-Extern.Bytes.bytesOf (σ a' n' c'))))) w=_;simp only[AO,bytesOf_run b,bytesOf_run d,AV,Result.andThen];rw[Lib.cmp_eq];show Result.ok (goInt (Lib.compareBytes (Lib.bytesOf p) (Lib.bytesOf q))) w=_;rw[cmpB_eq p q b.ag.b d.ag.b];rfl
theorem ol_cmp{w:Γ}{ρ:Φ}{o:Oper}{u v r:Δ}(x y:Operand)(a:Array TypeId)(c:o.op= .call {callee:= .value (.func 76),args:=#[x,y],argTypes:=a})(b:ρ (.func 76)= .func (.func 76) #[] #[])(f:ρ x=u)(d:ρ y=v)(g:(Extern.BytealgCompare.compare #[u,v]).run prog w= .ok r w):(execOp ρ o).run prog w= .ok (.value r) w:=by
 unfold execOp;simp only[c,resolve,b,Deferred.ofValue,AO,AV,A4,BT,Bd,BY,f,d,invoke,List.append_toArray,AH,A7];rw[run_callFunc_extern func76 (by kernel_rfl) (by kernel_rfl) (by kernel_rfl) (e:=Extern.BytealgCompare.compare) (by kernel_rfl),g];rfl
theorem bcmp_any(b:Sk K w a n c p)(d:Sk K' w a' n' c' q):
 Calls prog 45 #[σ a n c,σ a' n' c'] w λe w'=>e=ω (ι (cmpP p q))/\w'=w:=by
 refine Ck func45 8<|Hx 9 (og f45 1 2) (ι (cmpP p q)) (λ_=>ol_cmp _ _ _ rfl rfl (by kernel_rfl) (by kernel_rfl) (cmp_run b d)) ?_;exact Hr 4 (ι (cmpP p q)) ⟨rfl,rfl⟩
end
section
open Tr
variable {K K' : Nat → Prop} {w w' : World} {a a' : Option Addr} {n c n' c' : Nat} {p p' : Addr} {x y : List Int}
structure Bt(K:Θ)(w:Γ)(a:Ω)(n:Nat)(M:List τ):Prop where
 len:M.length=n
 row:∀j,j<n->∃g off a' n' c',a=some ⟨g,off,none⟩/\w.cell? ⟨g,off+j*1,none⟩=some (σ a' n' c')/\Sk K w a' n' c' (M.getD j [])
theorem Bt.go{M:List τ}(h:Bt K w a n M)(b:Λ w w'):Bt K w' a n M:=⟨h.len,λj e=>by
 obtain⟨g,off,a',n',c',d,c,f⟩:=h.row j e;exact⟨g,off,a',n',c',d,(b.cell (p:=⟨g,off+j*1,none⟩) (Al c)).trans c,f.go b⟩⟩
structure Two(K K':Θ)(w:Γ)(p p':Addr)(a a':Ω)(n c n' c':Nat)(x y:τ):Prop where
 cc:w.cell? p=some (σ a n c)
 sk:Sk K w a n c x
 cc':w.cell? p'=some (σ a' n' c')
 sk':Sk K' w a' n' c' y
theorem Two.drew(h:Two K K' w p p' a a' n c n' c' x y):Two K K' w.drew p p' a a' n c n' c' x y:=⟨h.cc,h.sk.drew,h.cc',h.sk'.drew⟩
theorem Two.go(h:Two K K' w p p' a a' n c n' c' x y)(b:Λ w w'):Two K K' w' p p' a a' n c n' c' x y:=⟨(b.cell (p:=p) (Al h.cc)).trans h.cc,h.sk.go b,(b.cell (p:=p') (Al h.cc')).trans h.cc',h.sk'.go b⟩
end
section
variable {K : Nat → Prop} {w v' : World} {p p' : Value × List Int} {gb n m m2 q i : Nat} {ps qs : List (Value × List Int)} {M : List (List Int)} {a b : List Int} {cur : Array Value}
def Gd(K:Θ)(w:Γ)(p:Δ×τ):Prop:=∃a n c,p.1=σ a n c/\Sk K w a n c p.2
theorem Gd.tou{w':Γ}{g:Nat}(h:Gd K w p)(t:Touch g w w')(d:¬K g):Gd K w' p:=by
 obtain⟨a,n,c,b,e⟩:=h;exact⟨a,n,c,b,e.tou t d⟩
theorem Touch.setCells(g:Nat):∀(vs:List Δ)(w:Γ)(o:Nat),Touch g w (w.setCells g o vs)
 |[],w,o=>Touch.refl g w
 |v::r,w,o=>(Touch.setCell g w o v).trans (Touch.setCells g r _ _)
theorem Nm{w:Γ}{ρ:Φ}{o:Oper}(x y:Operand)(g off k l c a c2:Nat)(b:o.op= .slice 30 x (some y) none none)(j:ρ x=σ (ζ g off) l c)(f:ρ y=ι (k:Int))(d:l=k+a)(i:c=k+c2)(m:0<c2):(execOp ρ o).run prog w= .ok (.value (σ (ζ g (off+k*1)) a c2)) w:=by
 subst d i;unfold execOp;rw[b];have e:k+a-k=a:=by omega
 have h:k+c2-k=c2:=by omega
 simp[j,f,Instr.sliceAt,Bm υ30,Instr.slice,Instr.sliceBounds,Instr.sliceBound,asIntOf,e,h,Result.andThen,BO];omega
theorem Zj{w:Γ}{ρ:Φ}{o:Oper}(x y:Operand)(g off k l c:Nat)(d:o.op= .slice 30 x none (some y) none)(f:ρ x=σ (ζ g off) l c)(e:ρ y=ι (k:Int))(b:k<=c)(h:0<c):(execOp ρ o).run prog w= .ok (.value (σ (ζ g off) k c)) w:=by
 unfold execOp;rw[d];have a:¬(c=0):=by omega
 simp[f,e,Instr.sliceAt,Bm υ30,Instr.slice,Instr.sliceBounds,Instr.sliceBound,asIntOf,a,b,Result.andThen,BO]
theorem WV{w:Γ}{ρ:Φ}{o:Oper}(x:Operand)(g off l c:Nat)(cur:Ξ)(d:o.op= .call {callee:= .builtin .clear,args:=#[x],argTypes:=#[30]})(h:ρ x=σ (ζ g off) l c)(a:Rw g w cur 32)(f:0<l)(i:off+l<=cur.size):(execOp ρ o).run prog w= .ok (.value (θ #[])) (w.setCells g off (List.replicate l (ε))):=by
 have b:=λty=>Lib.run_clear_slice (P:=prog) w 30 32 ty (ε) υ30 zeroValue32 rfl rfl g off l c f (λj e=>by rw[Aj _ _ _ _ _ _ a];simp;omega) (λj e=>AN _ _ _ _ _ a);unfold execOp;simp only[d,resolve,invoke,builtin,AO,AV,A4,BT,Bd,BY,h,b]
structure CI(K:Θ)(w:Γ)(gb n cap m:Nat)(ps:List (Δ×τ))(m2 q:Nat)(cu:Ξ)(qs:List (Δ×τ))(v:Γ):Prop where
 r:Rw gb v cu 32
 t:Touch gb w v
 le:m+1+(m2+1)<=n
 sz:cu.size=cap
 ql:qs.length=q
 qm:q<=m+m2+1
 ddq:qs.map Prod.snd=dd ((ps.map Prod.snd).take (m+1+(m2+1)))
 gd:∀p∈qs,Gd K w p
 tk:cu.toList.take q=qs.map Prod.fst
 rest:∀j,m+m2+1<=j->j<n->cu[j]?=(ps[j]?).map Prod.fst
theorem CI.go{cap:Nat}{cu:Ξ}{v:Γ}(h:CI K w gb n cap m ps m2 q cu qs v)(a:Λ v v'):CI K w gb n cap m ps m2 q cu qs v':=
 ⟨h.r.go a,h.t.trans (Touch.of_below a),h.le,h.sz,h.ql,h.qm,h.ddq,h.gd,h.tk,h.rest⟩
theorem CI.drew{cap:Nat}{cu:Ξ}{v:Γ}(h:CI K w gb n cap m ps m2 q cu qs v):CI K w gb n cap m ps m2 q cu qs v.drew:=h.go (Ac _ _).drew
theorem WW(d:M[i]?=some a)(f:M[i+1]?=some b):M.take (i+2)=M.take i++[a,b]/\M.take (i+1)=M.take i++[a]:=by
 have c:M.take (i+1)=M.take i++[a]:=by rw[BP,d];rfl
 have e:M.take (i+2)=M.take (i+1)++[b]:=by rw[BP,f];rfl
 exact⟨by rw[e,c];simp,c⟩
theorem KT(d:M[i]?=some a)(f:M[i+1]?=some b):dd (M.take (i+2))=dd (M.take (i+1))++(if b=a then[]else[b]):=by
 obtain⟨c,e⟩:=WW d f;rw[c,e];exact YM _ _ _
theorem CI.start{v:Γ}{cap:Nat}(i:Rw gb v cur 32)(o:Touch gb w v)(a:cur.toList.take n=ps.map Prod.fst)(d:cur.size=cap)(r:ps.length=n)(l:∀p∈ps,Gd K w p)(q:m+1<n)(hd:dd ((ps.map Prod.snd).take (m+1))=(ps.map Prod.snd).take (m+1))(k:ps[m]?=some p)(h:ps[m+1]?=some p')(f:p'.2=p.2):CI K w gb n cap m ps 0 (m+1) cur (ps.take (m+1)) v:=by
 have b:(ps.map Prod.snd)[m]?=some p.2:=by rw[AZ,k];rfl
 have c:(ps.map Prod.snd)[m+1]?=some p'.2:=by rw[AZ,h];rfl
 refine⟨i,o,by omega,d,by simp;omega,by omega,?_,λp e=>l p (Bb e),?_,λj _ g=>?_⟩
 ·rw[show m+1+(0+1)=m+2 from rfl,KT b c,Ai f,A7,hd,List.map_take]
 ·have:=Ao (List.take (m+1)) a;rw[Ev,CJ (by omega)]at this;rw[this,List.map_take]
 ·rw[<-AZ,<-a,AT g,BB]
theorem CI.keep{cap:Nat}{cu:Ξ}{v:Γ}(h:CI K w gb n cap m ps m2 q cu qs v)(f:ps[m+m2+1]?=some p)(d:ps[m+m2+1+1]?=some p')(k:m+1+(m2+1)<n)(e:p'.2=p.2):CI K w gb n cap m ps (m2+1) q cu qs v:=by
 have a:(ps.map Prod.snd)[m+m2+1]?=some p.2:=by rw[AZ,f];rfl
 have b:(ps.map Prod.snd)[m+m2+1+1]?=some p'.2:=by rw[AZ,d];rfl
 have g:=h.qm;refine⟨h.r,h.t,by omega,h.sz,h.ql,by omega,?_,h.gd,h.tk,λj i c=>h.rest j (by omega) c⟩;rw[show m+1+(m2+1+1)=m+m2+1+2 from by omega,KT a b,Ai e,A7,h.ddq,show m+1+(m2+1)=m+m2+1+1 from by omega]
theorem CI.move{cap:Nat}{cu:Ξ}{v:Γ}(h:CI K w gb n cap m ps m2 q cu qs v)(k:ps[m+m2+1]?=some p)(f:ps[m+m2+1+1]?=some p')(r:m+1+(m2+1)<n)(u:n<=cap)(i:¬p'.2=p.2)(g:Gd K w p')(b:Set1 v v' gb q p'.1)(l:p'.1.oneCell'=true):CI K w gb n cap m ps (m2+1) (q+1) (cu.setIfInBounds q p'.1) (qs++[p']) v':=by
 have d:(ps.map Prod.snd)[m+m2+1]?=some p.2:=by rw[AZ,k];rfl
 have c:(ps.map Prod.snd)[m+m2+1+1]?=some p'.2:=by rw[AZ,f];rfl
 have s:=h.qm;have o:=h.sz;refine⟨h.r.set b rfl,h.t.trans b.touch,by omega,by simp[h.sz],by simp[h.ql],by omega,?_,?_,?_,λj t e=>?_⟩
 ·rw[show m+1+(m2+1+1)=m+m2+1+2 from by omega,KT d c,Ae i,show m+m2+1+1=m+1+(m2+1)from by omega,<-h.ddq,Bp];rfl
 ·intro x a;rcases AP.1 a with a|a
  ·exact h.gd x a
  ·rw[Bz.1 a];exact g
 ·rw[Ey,BP,Bp,<-h.tk];have:(cu.toList.set q p'.1)[q]?=some p'.1:=by rw[List.getElem?_set_self (by simp;omega)]
  rw[this,List.take_set_of_le (Ab _)];rfl
 ·rw[Array.getElem?_setIfInBounds_ne (by omega)];exact h.rest j (by omega) e
theorem CI.done{cap:Nat}{cu:Ξ}{v:Γ}(h:CI K w gb n cap m ps m2 q cu qs v)(p:ps.length=n)(g:m+1+(m2+1)=n)(k:¬K gb)(vs:List Δ):Bt K (v.setCells gb (0+q*1) vs) (ζ gb 0) q (dd (ps.map Prod.snd))/\Touch gb w (v.setCells gb (0+q*1) vs):=by
 have f:=h.t.trans (Touch.setCells gb vs v (0+q*1));have hd:qs.map Prod.snd=dd (ps.map Prod.snd):=by rw[h.ddq,g,A9 (by simp;omega)]
 refine⟨⟨by rw[<-hd,AQ,h.ql],λj d=>?_⟩,f⟩;have b:j<qs.length:=by rw[h.ql];exact d
 obtain⟨a,n',c,o,i⟩:=h.gd qs[j] (Bh b);refine⟨gb,0,a,n',c,rfl,?_,?_⟩
 ·rw[World.cell?_setCells_out gb vs (0+q*1) v _ (λ_ _=> .inl (by show 0+j*1<0+q*1;omega)),Aj _ _ _ _ _ _ h.r,<-o];have:=Ao (λl=>l[j]?) h.tk;simp only[AT d,AZ,Ad b,B7,BB]at this;rw[show 0+j*1=j from by omega];exact this
 ·rw[<-hd];have e:(qs.map Prod.snd).getD j []=qs[j].2:=by simp[List.getD,b]
  rw[e];exact i.tou f k
theorem Mf(e:cur.toList.take n=ps.map Prod.fst)(i:ps.length=n)(f:∀p∈ps,Gd K w p){j:Nat}(g:j<n):∃a m c x,ps[j]?=some (σ a m c,x)/\cur[j]?=some (σ a m c)/\Sk K w a m c x:=by
 have b:j<ps.length:=by omega
 obtain⟨a,m,c,d,h⟩:=f ps[j] (Bh b);refine⟨a,m,c,ps[j].2,?_,?_,h⟩
 ·rw[Ad b,<-d]
 ·have:=Ao (λl=>l[j]?) e;simp only[AT g,AZ,Ad b,B7,BB]at this;rw[this,d]
theorem XaK(M:List τ)(h:0<M.length):dd (M.take (0+1))=M.take (0+1):=by
 cases M with
 |nil=>rfl
 |cons x M=>simp[dd,ddg]
theorem WY(M:List τ)(h:M.length<2):dd M=M:=by
 match M,h with
 |[],_=>rfl
 |[x],_=>rfl
theorem Xb0(c:ps[m]?=some p)(e:ps[m+1]?=some p')(hd:dd ((ps.map Prod.snd).take (m+1))=(ps.map Prod.snd).take (m+1))(d:¬p'.2=p.2):dd ((ps.map Prod.snd).take (m+1+1))=(ps.map Prod.snd).take (m+1+1):=by
 have b:(ps.map Prod.snd)[m]?=some p.2:=by rw[AZ,c];rfl
 have a:(ps.map Prod.snd)[m+1]?=some p'.2:=by rw[AZ,e];rfl
 rw[KT b a,Ae d,hd,BP (i:=m+1),a];rfl
theorem PK(g:Rw gb w cur 32)(d:cur.toList.take n=ps.map Prod.fst)(b:ps.length=n)(k:∀p∈ps,Gd K w p)(hd:dd (ps.map Prod.snd)=ps.map Prod.snd):Bt K w (ζ gb 0) n (dd (ps.map Prod.snd)):=by
 rw[hd];refine⟨by simp[b],λj e=>?_⟩;obtain⟨a,m,c,x,h,f,i⟩:=Mf d b k e;refine⟨gb,0,a,m,c,rfl,?_,?_⟩
 ·rw[Aj _ _ _ _ _ _ g,show 0+j*1=j from by omega];exact f
 ·rw[List.getD,AZ,h];exact i
theorem Mu{cap:Nat}(b:Rw gb w cur 32)(a:cur.toList.take n=ps.map Prod.fst)(f:cur.size=cap)(d:ps.length=n)(e:n<=cap)(c:∀p∈ps,Gd K w p)(h:¬K gb)(j:n<=7600000000002)(g:n<2):
 κ 46 #[σ (ζ gb 0) n cap, .func (.func 47) #[] #[]] w λu w'=>(λu w'=>∃k,u=σ (ζ gb 0) k cap/\Bt K w' (ζ gb 0) k (dd (ps.map Prod.snd))/\Touch gb w w') u w':=by
 have i:=Bl.refl w;refine Ck func46 66<|Ht 10 ((n:Int)<(2:Int)) ?_;exact Hr 11 (σ (ζ gb 0) n cap) ⟨_,rfl,n,rfl,PK b a d c (WY _ (by simp;omega)),Touch.refl _ _⟩
theorem PL{cap:Nat}(G:Rw gb w cur 32)(x:cur.toList.take n=ps.map Prod.fst)(ah:cur.size=cap)(s:ps.length=n)(aw:n<=cap)(y:∀p∈ps,Gd K w p)(Q:¬K gb)(hb:n<=7600000000002)(h2:¬n<2):
 κ 46 #[σ (ζ gb 0) n cap, .func (.func 47) #[] #[]] w λu w'=>(λu w'=>∃k,u=σ (ζ gb 0) k cap/\Bt K w' (ζ gb 0) k (dd (ps.map Prod.snd))/\Touch gb w w') u w':=by
 have c:=Bl.refl w;refine Ck func46 66<|Hf 10 ((n:Int)<(2:Int))<|Ho (X:=Nat) 12 (λm=>[(5,ι ((m+1:Nat):Int)),(0,σ (ζ gb 0) n cap),(1, .func (.func 47) #[] #[])]) (λm v=>Bl w v/\m+1<=n/\dd ((ps.map Prod.snd).take (m+1))=(ps.map Prod.snd).take (m+1)) (λm=>n-m) 0 ⟨c,by omega,XaK _ (by simp;omega)⟩ ?_;clear c;rintro m v⟨c,hm,hd⟩ I1 al;by_cases aa:m+1<n
 ·skip
  obtain⟨T,U,c1,x1,L,ac,W⟩:=Mf x s y (show m<n from by omega);obtain⟨O,P,c2,x2,I,ab,Y⟩:=Mf x s y aa;have a:Two K K v ⟨gb,0+(m+1)*1,none⟩ ⟨gb,0+m*1,none⟩ O T P c2 U c1 x2 x1:=⟨by rw[Aj _ _ _ _ _ _ (G.go c),show 0+(m+1)*1=m+1 from by omega];exact ab,Y.go c,by rw[Aj _ _ _ _ _ _ (G.go c),show 0+m*1=m from by omega];exact ac,W.go c⟩;refine Ht 6 (((m+1:Nat):Int)<(n:Int))<|Fq 8 (λv=>Two K K v ⟨gb,0+(m+1)*1,none⟩ ⟨gb,0+m*1,none⟩ O T P c2 U c1 x2 x1) (a.drew) ?_;replace a:=a.drew;refine Dx [0,1,2] 3 (og f46 6 3) (ψ gb (0+(m+1)*1)) (λv d _=>AW 30 _ _ gb 0 (m+1) n cap 1 32 rfl (by kernel_rfl) (by kernel_rfl) (by omega) υ30 (by kernel_rfl)) a<|Dx [] 4 (og f46 6 4) (σ O P c2) (λv d _=>AY 32 _ _ _ _ rfl (by kernel_rfl) d.cc υ32 rfl) a<|Dx [5,6] 7 (og f46 6 7) (ι (m:Int)) (λv d _=>E1 (v:=ι (IntKind.i64.wrap (((m+1:Nat):Int)-1))) (by kernel_rfl) (Ao (Value.int .i64) (by rw[Cy (by omega) (by omega)];omega))) a<|Dx [] 8 (og f46 6 8) (ψ gb (0+m*1)) (λv d _=>AW 30 _ _ gb 0 m n cap 1 32 rfl (by kernel_rfl) (by kernel_rfl) (by omega) υ30 (by kernel_rfl)) a<|Dx [] 9 (og f46 6 9) (σ T U c1) (λv d _=>AY 32 _ _ _ _ rfl (by kernel_rfl) d.cc' υ32 rfl) a<|Dz [10] ?_;refine Yc 10 (R:=λu w'=>u=β (decide (x2=x1))/\Bl (v.drew) w') (EX a.sk a.sk') (λu w' h=>a.go h.2) ?_ yn;rintro _ u1⟨rfl,M⟩;refine Do ?_;by_cases A:x2=x1
  ·skip
   rw[show(decide (x2=x1))=true from by simp[A]];obtain⟨e,af⟩:∃e,n=m+1+e:=⟨n-(m+1),by omega⟩;obtain⟨l,am⟩:∃l,cap=m+1+l:=⟨cap-(m+1),by omega⟩;replace c:=c.drew.go M;have b:=CI.start (G.go c) (Touch.of_below c) x ah s y aa hd L I A;replace a:=a.go M;clear a;refine Hx 6 (og f46 7 2) (σ (ζ gb (0+(m+1)*1)) e l) (λ_=>Nm _ _ gb 0 (m+1) n cap e l rfl (by kernel_rfl) (by kernel_rfl) af am (by omega))<|Ho (X:=Nat×Nat×Ξ×List (Δ×τ)) 10 (λz=>[(7,ι ((z.1+1:Nat):Int)),(5,ι ((z.2.1:Nat):Int)),(6,σ (ζ gb (0+(m+1)*1)) e l),(0,σ (ζ gb 0) n cap),(1, .func (.func 47) #[] #[])]) (λz v=>CI K w gb n cap m ps z.1 z.2.1 z.2.2.1 z.2.2.2 v) (λz=>n-z.1) (0,m+1,cur,ps.take (m+1)) b ?_;clear b c A W Y L I ac ab;rintro⟨m2,q,cu,qs⟩ v b I2 Z;simp only at b;have ap:=b.le;have aq:=b.qm;have av:=b.sz;by_cases ar:m2+1<e
   ·skip
    obtain⟨F,E,c3,t,H,-,ae⟩:=Mf x s y (show m+m2+1<n from by omega);obtain⟨g,j,i,r,J,-,V⟩:=Mf x s y (show m+m2+1+1<n from by omega);have ao:cu[m+m2+1]?=some (σ F E c3):=(by rw[b.rest _ (by omega) (by omega),H];rfl);have ak:cu[m+m2+1+1]?=some (σ g j i):=(by rw[b.rest _ (by omega) (by omega),J];rfl);have a:Two K K v ⟨gb,0+(m+1)*1+(m2+1)*1,none⟩ ⟨gb,0+(m+1)*1+m2*1,none⟩ g F j i E c3 r t:=⟨by rw[Aj _ _ _ _ _ _ b.r,show 0+(m+1)*1+(m2+1)*1=m+m2+1+1 from by omega];exact ak,V.tou b.t Q,by rw[Aj _ _ _ _ _ _ b.r,show 0+(m+1)*1+m2*1=m+m2+1 from by omega];exact ao,ae.tou b.t Q⟩;refine Ht 6 (((m2+1:Nat):Int)<(e:Int))<|Fq 8 (λv=>Two K K v ⟨gb,0+(m+1)*1+(m2+1)*1,none⟩ ⟨gb,0+(m+1)*1+m2*1,none⟩ g F j i E c3 r t) (a.drew) ?_;replace a:=a.drew;refine Dx [0,1,2] 3 (og f46 11 3) (ψ gb (0+(m+1)*1+(m2+1)*1)) (λv d _=>AW 30 _ _ gb (0+(m+1)*1) (m2+1) e l 1 32 rfl (by kernel_rfl) (by kernel_rfl) (by omega) υ30 (by kernel_rfl)) a<|Dx [] 4 (og f46 11 4) (σ g j i) (λv d _=>AY 32 _ _ _ _ rfl (by kernel_rfl) d.cc υ32 rfl) a<|Dx [5,6] 7 (og f46 11 7) (ι (m2:Int)) (λv d _=>E1 (v:=ι (IntKind.i64.wrap (((m2+1:Nat):Int)-1))) (by kernel_rfl) (Ao (Value.int .i64) (by rw[Cy (by omega) (by omega)];omega))) a<|Dx [] 8 (og f46 11 8) (ψ gb (0+(m+1)*1+m2*1)) (λv d _=>AW 30 _ _ gb (0+(m+1)*1) m2 e l 1 32 rfl (by kernel_rfl) (by kernel_rfl) (by omega) υ30 (by kernel_rfl)) a<|Dx [] 9 (og f46 11 9) (σ F E c3) (λv d _=>AY 32 _ _ _ _ rfl (by kernel_rfl) d.cc' υ32 rfl) a<|Dz [10] ?_;refine Yc 10 (R:=λu w'=>u=β (decide (r=t))/\Bl (v.drew) w') (EX a.sk a.sk') (λu w' h=>a.go h.2) ?_ yn;rintro _ u3⟨rfl,N⟩;replace a:=a.go N;refine Dx [] 11 (og f46 11 11) (β (!(decide (r=t)))) (λv d _=>by kernel_rfl) a<|Do ?_;by_cases D:r=t
    ·skip
     rw[show(!(decide (r=t)))=false from by simp[D]];refine Hw 7 (ι (IntKind.i64.wrap (((m2+1:Nat):Int)+1))) (ι ((m2+1+1:Nat):Int)) (Ao (Value.int .i64) (by rw[Cy (by omega) (by omega)];omega)) ?_;replace b:=b.drew.go N;exact Z 2 (m2+1,q,cu,qs) (b.keep H J (by omega) D) (by show n-(m2+1)<n-m2;omega) (λ_=>by kernel_rfl)
    ·skip
     rw[show(!(decide (r=t)))=true from by simp[D]];refine Hx 8 (og f46 12 4) (ψ gb (0+(m+1)*1+(m2+1)*1)) (λ_=>AW 30 _ _ gb (0+(m+1)*1) (m2+1) e l 1 32 rfl (by kernel_rfl) (by kernel_rfl) (by omega) υ30 (by kernel_rfl))<|Hx 0 (og f46 12 5) (σ g j i) (λ_=>AY 32 _ _ _ _ rfl (by kernel_rfl) a.cc υ32 rfl)<|Hx 0 (og f46 12 6) (ψ gb (0+q*1)) (λ_=>AW 30 _ _ gb 0 q n cap 1 32 rfl (by kernel_rfl) (by kernel_rfl) (by omega) υ30 (by kernel_rfl)) ?_;replace b:=b.drew.go N;refine Ha 0 (og f46 12 7) gb (0+q*1) (σ g j i) (λ_=>ol_setC 32 _ _ gb (0+q*1) _ _ _ b.r rfl (by kernel_rfl) (by kernel_rfl) (by omega) rfl rfl (by kernel_rfl)) ?_;intro w5 C;replace C:Set1 u3 w5 gb q (σ g j i):=(by rw[show 0+q*1=q from by omega]at C;exact C);clear a;refine Hw 4 (ι (IntKind.i64.wrap ((q:Int)+1))) (ι ((q+1:Nat):Int)) (Ao (Value.int .i64) (by rw[Cy (by omega) (by omega)];omega))<|Hw 6 (ι (IntKind.i64.wrap (((m2+1:Nat):Int)+1))) (ι ((m2+1+1:Nat):Int)) (Ao (Value.int .i64) (by rw[Cy (by omega) (by omega)];omega)) ?_;replace b:=b.move H J (by omega) (by omega) D ⟨_,_,_,rfl,V⟩ C rfl;exact Z 2 (m2+1,q+1,cu.setIfInBounds q (σ g j i),qs++[(σ g j i,r)]) b (by show n-(m2+1)<n-m2;omega) (λ_=>by kernel_rfl)
   have ad:m+1+(m2+1)=n:=(by omega);refine Hf 6 (((m2+1:Nat):Int)<(e:Int)) ?_;obtain⟨o,ai⟩:∃o,n=q+o:=⟨n-q,by omega⟩;obtain⟨B,aj⟩:∃B,cap=q+B:=⟨cap-q,by omega⟩;refine Hx 12 (og f46 14 2) (σ (ζ gb (0+q*1)) o B) (λ_=>Nm _ _ gb 0 q n cap o B rfl (by kernel_rfl) (by kernel_rfl) ai aj (by omega)) ?_;have S:=b.done s ad Q (List.replicate o (ε));refine Hx 0 (og f46 14 3) (θ #[]) (w':=World.setCells v gb (0+q*1) (List.replicate o (ε))) (λ_=>WV _ gb (0+q*1) o B _ rfl (by kernel_rfl) b.r (by omega) (by omega)) ?_;generalize World.setCells v gb (0+q*1) (List.replicate o (ε))=wF at S⊢;refine Hx 6 (og f46 15 2) (σ (ζ gb 0) q cap) (λ_=>Zj _ _ gb 0 q n cap rfl (by kernel_rfl) (by kernel_rfl) (by omega) (by omega)) ?_;exact Hr 9 (σ (ζ gb 0) q cap) ⟨_,rfl,q,rfl,S.1,S.2⟩
  ·skip
   rw[show(decide (x2=x1))=false from by simp[A]];refine Hw 7 (ι (IntKind.i64.wrap (((m+1:Nat):Int)+1))) (ι ((m+1+1:Nat):Int)) (Ao (Value.int .i64) (by rw[Cy (by omega) (by omega)];omega)) ?_;replace c:=c.drew.go M;exact al 2 (m+1) ⟨c,by omega,Xb0 L I hd A⟩ (by show n-(m+1)<n-m;omega) (λ_=>by kernel_rfl)
 obtain rfl:m+1=n:=by omega
 refine Hf 6 (((m+1:Nat):Int)<(m+1:Int)) ?_;exact Hr 15 (σ (ζ gb 0) (m+1) cap) ⟨_,rfl,m+1,rfl,(PK G x s y (by rw[<-s,<-AQ (f:=Prod.snd),Dv]at hd;exact hd)).go c,Touch.of_below c⟩
theorem PM{cap:Nat}(e:Rw gb w cur 32)(a:cur.toList.take n=ps.map Prod.fst)(c:cur.size=cap)(i:ps.length=n)(b:n<=cap)(h:∀p∈ps,Gd K w p)(f:¬K gb)(g:n<=7600000000002):
 κ 46 #[σ (ζ gb 0) n cap, .func (.func 47) #[] #[]] w λu w'=>(λu w'=>∃k,u=σ (ζ gb 0) k cap/\Bt K w' (ζ gb 0) k (dd (ps.map Prod.snd))/\Touch gb w w') u w':=by
 by_cases d:n<2
 ·exact Mu e a c i b h f g d
 ·exact PL e a c i b h f g d
end
end Go.Proofs.YtkdlocloepbmcaaGreat
