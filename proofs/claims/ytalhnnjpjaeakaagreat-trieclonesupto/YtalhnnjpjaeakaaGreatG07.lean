/- Nodes and their bytes, back and forth, as plain functions: what is written is read as it was; what is read is written as the same bytes. -/
import Derived.Test.YtalhnnjpjaeakaaGreatAK
import Derived.Test.YtalhnnjpjaeakaaGreatG06
import Derived.Deep.RegionHeld3
import Derived.Test.YtalhnnjpjaeakaaGreatG05
import Derived.Laws.CopyRow
import Derived.Deep.MidRow
set_option linter.unusedVariables false
set_option maxRecDepth 100000
set_option maxHeartbeats 1000000
open Go.Proofs.Tryz Go.RowKit
namespace Go.Proofs.YtalhnnjpjaeakaaGreat
open Ni (unpP packP rightP)
variable {D : Nat} {ts : List T} {r : PR} {b i : List Int} {n m : PN} {u : T}
def OkD(D:Nat)(t:T):Prop:=∀d w,d<=D->w+(enc t).length<=16777215->(wk t d w).2=0/\(wk t d w).1<=w+(enc t).length
theorem OkD.mono{E:Nat}{t:T}(h:OkD D t)(he:E<=D):OkD E t:=λd w hd hw=>h d w (by omega) hw
theorem Oi(bs:List Int):max bs.length 1<=(enc (.mk false bs [])).length:=by
 have h1:=Jf (.mk false bs []);have h2:=Fl (.mk false bs []);rw[show bodyOf (.mk false bs [])=bs from by rw[bodyOf,T.bs,T.its,Cq,Az]]at h2;omega
theorem G6(D:Nat)(bs:List Int):OkD D (.mk false bs []):=λd w hd hw=>by
 have hl:=Oi bs;have hwt:wt false bs d=max bs.length 1:=by unfold wt;simp
 rw[IW,Ad (by simp),Ad (by simp[wrongForm]),hwt,Ad (by omega),Ej];exact⟨rfl,by dsimp only;omega⟩
theorem VO{D:Nat}:∀{ts:List T},(∀t∈ts,OkD D t)->∀d w,d<=D->w+(encs ts).length<=16777215->(wks ts d w).2=0/\(wks ts d w).1<=w+(encs ts).length
 |[],_,d,w,_,_=>by rw[Ej];exact⟨rfl,by simp⟩
 |t::r,h,d,w,hd,hw=>by
  rw[C7,Ab]at hw⊢;obtain⟨h1,h2⟩:=h t (by simp) d w hd (by omega);rw[Fi,Af h1];obtain⟨h3,h4⟩:=VO (λu hu=>h u (AB _ hu)) d (wk t d w).1 hd (by omega);exact⟨h3,by omega⟩
theorem Sy(hD:D<=7)(h:∀t∈ts,OkD (D+1) t):OkD D (.mk true [] ts):=λd w hdd hw=>by
 have he:(enc (.mk true [] ts)).length=(hd 192 (encs ts).length).length+(encs ts).length:=by rw[XL (t:= .mk true [] ts) rfl rfl,Ab];rfl
 have hp:=Og 192 (encs ts).length;have hwt:wt true [] d<=1:=by unfold wt;split<;>simp
 rw[IW,Ad (by simp;omega),Ad (by simp[wrongForm]),Ad (by omega)];obtain⟨h1,h2⟩:=VO h (d+1) (w+wt true [] d) (by omega) (by omega);exact⟨h1,by omega⟩
theorem Zh{t:T}(h:OkD D t)(hf:form t=true)(hl:(enc t).length<=16777215):(mP t).2=0:=by
 have h0:=(h 0 0 (by omega) (by omega)).1;have hb:=Fl t;unfold mP;rw[Ad (by rw[h0];simp),Ad (by rw[IX hf];omega)]
theorem Sz{bs:List Int}(h:bs.length<=65536):(mP (.mk false bs [])).2=0:=by
 refine Zh (G6 0 bs) (by rw[FY];simp[Ey]) ?_;rw[Ef,Cq,Az];have:=Sv (base:=baseOf false) (n:=bs.length) (by omega);split
 ·omega
 ·rw[Ab];omega
theorem FM{dk:List Int->Int}(h:rrefP dk r=true):(r.k=0/\r.d=z32/\r.i=[])∨(r.k=2/\r.i=[])∨(r.k=1/\r.d=z32/\r.i.length<32/\dk r.i≠0):=by
 unfold rrefP at h;by_cases h0:r.k=0
 ·simp[h0]at h;exact .inl ⟨h0,h.1,h.2⟩
 ·by_cases h2:r.k=2
  ·simp[h2]at h;exact .inr (.inl ⟨h2,h⟩)
  ·by_cases h1:r.k=1
   ·simp[h1]at h;exact .inr (.inr ⟨h1,h.1.1,h.1.2,h.2⟩)
   ·simp[h0,h1,h2]at h
theorem Ga{t:T}(hb:isB b)(hd:decP b= .ok t)(hn:nodeOfP t=some n):t.l=true/\t.bs=[]/\forms t.its=true:=Kk (G5 hb hd).2.2 (Kl hn).1
theorem PR.ext{a b:PR}(h1:a.k=b.k)(h2:a.d=b.d)(h3:a.i=b.i):a=b:=by cases a;cases b;simp_all
theorem PN.ext{a b:PN}(h1:a.k=b.k)(h2:a.p=b.p)(h3:a.v=b.v)(h4:a.c=b.c)(h5:a.ks=b.ks):a=b:=by cases a;cases b;simp_all
theorem Jk(ho:okR r)(h:rrefP KD r=true):refOfP (refItemP r)=some r/\(mP (refItemP r)).2=0/\(enc (refItemP r)).length<=36:=by
 rcases FM h with⟨h1,h2,h3⟩|⟨h1,h2⟩|⟨h1,h2,h3,h4⟩
 ·have e:refItemP r=t0:=by unfold refItemP;rw[Ad (by omega),Ad (by omega)]
  rw[e];refine⟨?_,Sz (by simp),by decide+kernel⟩;unfold refOfP;rw[Ad (by simp[t0,T.l]),Af (by rfl)];exact Av some (PR.ext h1.symm h2.symm h3.symm)
 ·have e:refItemP r= .mk false r.d []:=by unfold refItemP;rw[Ad (by omega),Af h1]
  rw[e];have hl:=ho.2.1;refine⟨?_,Sz (by omega),?_⟩
  ·unfold refOfP;rw[Ad (by simp[T.l]),Ad (by show¬r.d.length=0;omega),Af (by exact hl)];exact Av some (PR.ext h1.symm rfl h2.symm)
  ·rw[Ef,Cq,Az];have:=Sv (base:=baseOf false) (n:=r.d.length) (by omega);split
   ·omega
   ·rw[Ab];omega
 ·obtain⟨m,hm,_⟩:=Jj h4;obtain⟨t,hd,hn,hr⟩:=FZ ho.2.2 hm;have e:refItemP r=t:=by unfold refItemP;rw[Af h1,hd]
  rw[e];obtain⟨e1,e2,e3⟩:=G5 ho.2.2 hd;refine⟨?_,e2,by rw[e1];omega⟩;unfold refOfP;rw[Af (Ga ho.2.2 hd hn).1,Af e2,e1];exact Av some (PR.ext h1.symm h2.symm rfl)
theorem Gq(hf:form u=true)(h:¬u.l=true):u= .mk false u.bs []:=by
 obtain⟨l,bs,its⟩:=u;have hl:l=false:=by simpa[T.l]using h
 subst hl;rw[Ed hf];rfl
theorem Jl(hf:form u=true)(h:refOfP u=some r):refItemP r=u/\(u.l=true->(mP u).2=0/\r=⟨1,z32,enc u⟩)/\(¬u.l=true->r.k≠1):=by
 unfold refOfP at h;by_cases hl:u.l=true
 ·rw[Af hl]at h;by_cases hm:(mP u).2=0
  ·rw[Af hm]at h;cases h;refine⟨?_,λ_=>⟨hm,rfl⟩,λh=>absurd hl h⟩;unfold refItemP;rw[Af rfl,KJ hm]
  ·rw[Ad hm]at h;cases h
 ·rw[Ad hl]at h;have ht:=Gq hf hl;by_cases h0:u.bs.length=0
  ·rw[Af h0]at h;cases h;refine⟨?_,λh=>absurd h hl,λ_=>by show(0:Int)≠1;decide⟩;rw[ht,Ar h0];rfl
  ·rw[Ad h0]at h;by_cases h32:u.bs.length=32
   ·rw[Af h32]at h;cases h;refine⟨?_,λh=>absurd h hl,λ_=>by show(2:Int)≠1;decide⟩;rw[ht];rfl
   ·rw[Ad h32]at h;cases h
theorem MS:∀{ks:List PR},(∀r∈ks,refOfP (refItemP r)=some r)->kidsP (ks.map refItemP)=some ks
 |[],_=>rfl
 |r::l,h=>by rw[B9,kidsP,h r (by simp),MS λx hx=>h x (AB _ hx)]
theorem MT:∀{ts:List T}{ks:List PR},(∀t∈ts,form t=true)->kidsP ts=some ks->ks.map refItemP=ts
 |[],ks,_,h=>by cases h;rfl
 |t::l,ks,hf,h=>by
  rw[kidsP]at h;cases hr:refOfP t with
  |none=>rw[hr]at h;cases h
  |some a=>
   rw[hr]at h;dsimp only at h;cases hk:kidsP l with
   |none=>rw[hk]at h;cases h
   |some l'=>
    rw[hk]at h;cases h;rw[B9,(Jl (hf t (by simp)) hr).1,MT (λu hu=>hf u (AB _ hu)) hk]
theorem Jm(h:NR n=true):(n.k=1/\n.p.length<=64/\rightP n.p=true/\0<n.v.length/\n.v.length<=256/\rrefP KD n.c=true/\n.c.k=0/\n.ks=[])∨
 (n.k=2/\0<n.p.length/\n.p.length<=64/\rightP n.p=true/\n.v=[]/\rrefP KD n.c=true/\(n.c.k=2∨KD n.c.i=3)/\n.ks=[])∨
 (n.k=3/\n.p=[]/\n.v.length<=256/\rrefP KD n.c=true/\n.c.k=0/\n.ks.length=16/\(∀r∈n.ks,rrefP KD r=true)/\2<=(if 0<n.v.length then 1 else 0)+ways n.ks):=by
 have hk:=Oh h;unfold NR nright rpathP rvalueP rchildP rkidsP at h;have hch:rrefP KD n.c=true:=by
  cases hq:rrefP KD n.c with
  |true=>rfl
  |false=>rw[hq]at h;simp at h
 rcases hk with hk|hk|hk
 ·left;simp[hk,hch]at h;obtain⟨⟨⟨⟨_,h1,h2⟩,h3,h4⟩,h5⟩,h6⟩:=h;exact⟨hk,h1,h2,BC.2 h3,h4,hch,h5,h6⟩
 ·right;left;simp[hk,hch]at h;obtain⟨⟨⟨⟨_,h1,h2,h3⟩,h4⟩,h5⟩,h6⟩:=h;exact⟨hk,BC.2 h1,h2,h3,h4,hch,h5,h6⟩
 ·right;right;simp[hk,hch]at h;obtain⟨⟨⟨⟨_,h1⟩,h2⟩,h3⟩,h4,h5,h6⟩:=h;exact⟨hk,h1,h2,hch,h3,h4,h5,by simpa using h6⟩
theorem MU:∀{ts:List T}{ks:List PR},kidsP ts=some ks->∀u∈ts,∃r∈ks,refOfP u=some r
 |[],ks,h,u,hu=>by cases hu
 |t::l,ks,h,u,hu=>by
  rw[kidsP]at h;cases hr:refOfP t with
  |none=>rw[hr]at h;cases h
  |some a=>
   rw[hr]at h;dsimp only at h;cases hk:kidsP l with
   |none=>rw[hk]at h;cases h
   |some l'=>
    rw[hk]at h;cases h;rcases A3.1 hu with rfl|hu
    ·exact⟨a,by simp,hr⟩
    ·obtain⟨r,h1,h2⟩:=MU hk u hu;exact⟨r,by simp[h1],h2⟩
theorem LA:∀its:List T,its.length<=(encs its).length
 |[]=>by simp
 |t::r=>by
  have:=Jf t;have:=LA r;rw[C7,Ab,AP];omega
theorem Jn:∀{its:List T}{u:T},u∈its->(enc u).length+its.length<=(encs its).length+1
 |t::r,u,hu=>by
  rw[C7,Ab,AP];have:=Jf t;rcases A3.1 hu with rfl|hu
  ·have:=LA r;omega
  ·have:=Jn hu;omega
theorem Z2{its:List T}(h:its.length=2):its=[its.getD 0 t0,its.getD 1 t0]:=by
 match its,h with
 |[x,y],_=>rfl
theorem Oj{its:List T}(h:its.length=17):its=its.take 16++[its.getD 16 t0]:=by
 have h1:its.drop 16=[its.getD 16 t0]:=by
  rw[Bq (by omega),Br (by omega),List.getD,Ac (by omega)];rfl
 rw[<-h1,Bf]
theorem Jo{t:T}(hf:forms t.its=true)(h:nodeOfP t=some n):
 (∃x y,t.its=[x,y]/\x= .mk false x.bs []/\(unpP x.bs).2.2=0/\(((unpP x.bs).2.1=true/\y= .mk false y.bs []/\n=⟨1,(unpP x.bs).1,y.bs,r0,[]⟩)∨((unpP x.bs).2.1=false/\∃c,refOfP y=some c/\form y=true/\n=⟨2,(unpP x.bs).1,[],c,[]⟩)))∨
 (∃ts y ks,t.its=ts++[y]/\ts.length=16/\y= .mk false y.bs []/\kidsP ts=some ks/\(∀u∈ts,form u=true)/\n=⟨3,[],y.bs,r0,ks⟩):=by
 unfold nodeOfP at h;by_cases h2:t.its.length=2
 ·rw[Af h2]at h;left;have hit:=Z2 h2;generalize t.its.getD 0 t0=x at h hit;generalize t.its.getD 1 t0=y at h hit;have fx:=Dg hf x (by rw[hit];simp);have fy:=Dg hf y (by rw[hit];simp);unfold pathP at h;by_cases hb:x.l=true∨(unpP x.bs).2.2≠0
  ·rw[Af hb]at h;cases h
  ·rw[Ad hb]at h;have hxl:¬x.l=true:=λe=>hb (.inl e);have hxe:(unpP x.bs).2.2=0:=Decidable.byContradiction λe=>hb (.inr e);refine⟨x,y,hit,Gq fx hxl,hxe,?_⟩;by_cases hl:(unpP x.bs).2.1=true
   ·rw[Af hl]at h;by_cases hy:y.l=true
    ·rw[Af hy]at h;cases h
    ·rw[Ad hy]at h;cases h;exact .inl ⟨hl,Gq fy hy,rfl⟩
   ·rw[Ad hl]at h;cases hq:refOfP y with
    |none=>rw[hq]at h;cases h
    |some c=>
     rw[hq]at h;cases h;exact .inr ⟨by simpa using hl,c,rfl,fy,rfl⟩
 ·rw[Ad h2]at h;by_cases h17:t.its.length=17
  ·rw[Af h17]at h;right;have hit:=Oj h17;have hl16:(t.its.take 16).length=16:=(by rw[Ap];omega);generalize t.its.take 16=ts at h hit hl16;generalize t.its.getD 16 t0=y at h hit;have fy:=Dg hf y (by rw[hit];simp);unfold branchP at h;cases hk:kidsP ts with
   |none=>rw[hk]at h;cases h
   |some ks=>
    rw[hk]at h;dsimp only at h;by_cases hy:y.l=true
    ·rw[Af hy]at h;cases h
    ·rw[Ad hy]at h;cases h;exact⟨ts,y,ks,hit,hl16,Gq fy hy,hk,λu hu=>Dg hf u (by rw[hit];simp[hu]),rfl⟩
  ·rw[Ad h17]at h;cases h
theorem LC{y:T}(h:y= .mk false y.bs []):¬y.l=true:=by rw[h];simp[T.l]
theorem S9{t:T}(hb:isB b)(h:decP b= .ok t)(hu:u∈t.its):isB (enc u):=λx hx=>hb x ((Ji hb h hu).2 x hx)
theorem Jp{t:T}(hb:isB i)(hm:ND i=some m)(hd':decP i= .ok t)(hu:u∈t.its)(hl:u.l=true):
 ∃m',ND (enc u)=some m'/\decP (enc u)= .ok u/\isB (enc u)/\((m.k=2/\m'.k=3/\(enc u).length+2<=i.length)∨(m.k=3/\(enc u).length+17<=i.length)):=by
 obtain⟨t',e1,hn,hr⟩:=FZ hb hm;rw[hd']at e1;cases e1;obtain⟨e1,e2,e3⟩:=G5 hb hd';obtain⟨l1,l2,l3⟩:=Ga hb hd' hn;have hlen:i.length=(hd 192 (encs t.its).length).length+(encs t.its).length:=by rw[<-e1,XL l1 l2,Ab]
 have hp:=Og 192 (encs t.its).length;have hml:=Jn hu;have hbu:=S9 hb hd' hu;rcases Jo l3 hn with⟨x,y,hit,hx,_,hc⟩|⟨ts,y,ks,hit,h16,hy,hk,hfs,rfl⟩
 ·have hit2:t.its.length=2:=by rw[hit];rfl
  rw[hit]at hu;simp only[A3,Cb,Ec]at hu;rcases hu with rfl|rfl
  ·exact absurd hl (LC hx)
  ·rcases hc with⟨_,hy,_⟩|⟨_,c,hc,hf,rfl⟩
   ·exact absurd hl (LC hy)
   ·obtain⟨hmu,hcr⟩:=(Jl hf hc).2.1 hl;rcases Jm hr with h|h|h
    ·exact absurd h.1 (by simp)
    ·obtain⟨_,_,_,_,_,_,hcc,_⟩:=h;rw[hcr]at hcc;have hk3:KD (enc u)=3:=by
      rcases hcc with hcc|hcc
      ·exact absurd hcc (by simp)
      ·exact hcc
     obtain⟨m',hm',hk'⟩:=Jj (b:=enc u) (by rw[hk3];decide);exact⟨m',hm',KJ hmu,hbu, .inl ⟨rfl,by rw[hk',hk3],by omega⟩⟩
    ·exact absurd h.1 (by simp)
 ·have hit2:t.its.length=17:=by rw[hit,Ab,h16];rfl
  rw[hit]at hu;rcases AS.1 hu with hu|hu
  ·obtain⟨r,hr1,hr2⟩:=MU hk u hu;obtain⟨hmu,hcr⟩:=(Jl (hfs u hu) hr2).2.1 hl;rcases Jm hr with h|h|h
   ·exact absurd h.1 (by simp)
   ·exact absurd h.1 (by simp)
   ·obtain⟨_,_,_,_,_,_,hall,_⟩:=h;have:=hall r hr1;rw[hcr]at this;rcases FM this with h|h|h
    ·exact absurd h.1 (by show¬(1:Int)=0;decide)
    ·exact absurd h.1 (by show¬(1:Int)=2;decide)
    ·obtain⟨m',hm',_⟩:=Jj (b:=enc u) h.2.2.2;exact⟨m',hm',KJ hmu,hbu, .inr ⟨rfl,by omega⟩⟩
  ·simp only[A3,Cb,Ec]at hu;subst hu;exact absurd hl (LC hy)
theorem KL{t:T}(hb:isB i)(hm:ND i=some m)(hd':decP i= .ok t)(hD:D<=7)(h:∀u∈t.its,u.l=true->OkD (D+1) u):OkD D t:=by
 obtain⟨t',e1,hn,hr⟩:=FZ hb hm;rw[hd']at e1;cases e1;obtain⟨l1,l2,l3⟩:=Ga hb hd' hn;obtain⟨l,bs,its⟩:=t;simp only[T.l,T.bs,T.its]at l1 l2 l3 h;subst l1 l2;refine Sy hD λu hu=>?_;by_cases hl:u.l=true
 ·exact h u hu hl
 ·rw[Gq (Dg l3 u hu) hl];exact G6 _ _
theorem XaB{t:T}(hb:isB i)(hm:ND i=some m)(hd':decP i= .ok t)(hk:m.k=3)(hl:i.length<=16):OkD 7 t:=by
 refine KL hb hm hd' (Aa _) λu hu hul=>?_;obtain⟨m',_,_,_,h|h⟩:=Jp hb hm hd' hu hul
 ·omega
 ·omega
theorem Xa9{t:T}(hb:isB i)(hm:ND i=some m)(hd':decP i= .ok t)(hl:i.length<=16):OkD 6 t:=by
 refine KL hb hm hd' (by omega) λu hu hul=>?_;obtain⟨m',h1,h2,h3,h|h⟩:=Jp hb hm hd' hu hul
 ·exact XaB h3 h1 h2 h.2.1 (by omega)
 ·omega
theorem XaC{t:T}(hb:isB i)(hm:ND i=some m)(hd':decP i= .ok t)(hk:m.k=3)(hl:i.length<=33):OkD 5 t:=by
 refine KL hb hm hd' (by omega) λu hu hul=>?_;obtain⟨m',h1,h2,h3,h|h⟩:=Jp hb hm hd' hu hul
 ·omega
 ·exact Xa9 h3 h1 h2 (by omega)
theorem XaD{t:T}(hb:isB i)(hm:ND i=some m)(hd':decP i= .ok t)(hl:i.length<=33):OkD 4 t:=by
 refine KL hb hm hd' (by omega) λu hu hul=>?_;obtain⟨m',h1,h2,h3,h|h⟩:=Jp hb hm hd' hu hul
 ·exact XaC h3 h1 h2 h.2.1 (by omega)
 ·exact(Xa9 h3 h1 h2 (by omega)).mono (by omega)
theorem VP(ho:okR r)(h:rrefP KD r=true):OkD 4 (refItemP r)/\form (refItemP r)=true:=by
 refine⟨?_,(Jc (Jk ho h).2.1).2.2⟩;rcases FM h with⟨h1,h2,h3⟩|⟨h1,h2⟩|⟨h1,h2,h3,h4⟩
 ·have e:refItemP r=t0:=by unfold refItemP;rw[Ad (by omega),Ad (by omega)]
  rw[e];exact G6 _ _
 ·have e:refItemP r= .mk false r.d []:=by unfold refItemP;rw[Ad (by omega),Af h1]
  rw[e];exact G6 _ _
 ·obtain⟨m,hm,_⟩:=Jj h4;obtain⟨t,hd',hn,hr⟩:=FZ ho.2.2 hm;have e:refItemP r=t:=by unfold refItemP;rw[Af h1,hd']
  rw[e];exact XaD ho.2.2 hm hd' (by omega)
theorem ID(bs:List Int):form (.mk false bs [])=true:=by rw[FY];simp[Ey]
theorem Jq{bs:List Int}(h:bs.length<=65536):(enc (.mk false bs [])).length<=bs.length+4:=by
 rw[Ef,Cq,Az];have:=Sv (base:=baseOf false) (n:=bs.length) (by omega);split
 ·omega
 ·rw[Ab];omega
theorem SA{c:Nat}:∀{ts:List T},(∀t∈ts,(enc t).length<=c)->(encs ts).length<=c*ts.length
 |[],_=>by rw[Cq];simp
 |t::r,h=>by
  have:=h t (by simp);have:=SA λu hu=>h u (AB _ hu);rw[C7,Ab,AP,Nat.mul_succ];omega
theorem IE(h:∀t∈ts,OkD 4 t/\form t=true)(hl:(encs ts).length<=65536):(mP (.mk true [] ts)).2=0/\(enc (.mk true [] ts)).length<=65540:=by
 have he:enc (.mk true [] ts)=hd 192 (encs ts).length++encs ts:=XL (t:= .mk true [] ts) rfl rfl;have hle:=Sv (base:=192) (n:=(encs ts).length) (by omega);have hlen:(enc (.mk true [] ts)).length<=65540:=by rw[he,Ab];omega
 refine⟨Zh (D:=3) (Sy (by omega) λt ht=>(h t ht).1) ?_ (by omega),hlen⟩;rw[FY,Af rfl,OT λt ht=>(h t ht).2];rfl
theorem MV{p:List Int}(leaf:Bool)(h:p.length<=64):(packP p leaf).1.length<=33:=by
 unfold packP;split
 ·dsimp only;rw[Ni.pack_len];omega
 ·simp
theorem EZ(ho:okN n)(h:NR n=true):(mP (itemP n)).2=0/\nodeOfP (itemP n)=some n/\(enc (itemP n)).length<=65540:=by
 obtain⟨ho1,ho2,ho3,ho4⟩:=ho;rcases Jm h with⟨hk,h1,h2,h3,h4,h5,h6,h7⟩|⟨hk,h1,h2,h3,h4,h5,h6,h7⟩|⟨hk,h1,h2,h3,h4,h5,h6,h7⟩
 ·have e:itemP n= .mk true [] [.mk false (packP n.p true).1 [], .mk false n.v []]:=by unfold itemP;rw[Ad (by omega),Af hk]
  rw[e];have hpl:=MV true h1
  obtain⟨r1,r2⟩:=IE (ts:=[.mk false (packP n.p true).1 [], .mk false n.v []]) (λt ht=>by
   simp only[A3,Cb,Ec]at ht;rcases ht with rfl|rfl<;>exact⟨G6 _ _,ID _⟩) (by
   have a1:=Jq (bs:=(packP n.p true).1) (by omega);have a2:=Jq (bs:=n.v) (by omega);rw[C7,C7,Cq,Ab,Ab,Ch];omega)
  refine⟨r1,?_,r2⟩;unfold nodeOfP;rw[Af (by rfl)];have hu:unpP (packP n.p true).1=(n.p,true,0):=by rw[Ni.packP_yes h2];exact Ni.unp_pack ho1 h2
  unfold pathP;show(if(false=true)∨(unpP (packP n.p true).1).2.2≠0 then none else if(unpP (packP n.p true).1).2.1=true then(if false=true then none else some (⟨1,(unpP (packP n.p true).1).1,n.v,r0,[]⟩:PN))else _)=some n;rw[hu,Ad (by simp),Af rfl,Ad (by simp)];have hc:n.c=r0:=by
   rcases FM h5 with c|c|c
   ·exact PR.ext c.1 c.2.1 c.2.2
   ·omega
   ·omega
  exact Av some (PN.ext hk.symm rfl rfl hc.symm h7.symm)
 ·have e:itemP n= .mk true [] [.mk false (packP n.p false).1 [],refItemP n.c]:=by unfold itemP;rw[Ad (by omega),Ad (by omega)]
  rw[e];have hpl:=MV false h2;obtain⟨b1,b2,b3⟩:=Jk ho3 h5
  obtain⟨r1,r2⟩:=IE (ts:=[.mk false (packP n.p false).1 [],refItemP n.c]) (λt ht=>by
   simp only[A3,Cb,Ec]at ht;rcases ht with rfl|rfl
   ·exact⟨G6 _ _,ID _⟩
   ·exact VP ho3 h5) (by
   have a1:=Jq (bs:=(packP n.p false).1) (by omega);rw[C7,C7,Cq,Ab,Ab,Ch];omega)
  refine⟨r1,?_,r2⟩;unfold nodeOfP;rw[Af (by rfl)];have hu:unpP (packP n.p false).1=(n.p,false,0):=by rw[Ni.packP_yes h3];exact Ni.unp_pack ho1 h3
  unfold pathP
  show(if(false=true)∨(unpP (packP n.p false).1).2.2≠0 then none else if(unpP (packP n.p false).1).2.1=true then _ else match refOfP (refItemP n.c)with
   |none=>none
   |some c=>some (⟨2,(unpP (packP n.p false).1).1,[],c,[]⟩:PN))=some n
  rw[hu,b1,Ad (by simp),Ad (by simp)];exact Av some (PN.ext hk.symm rfl h4.symm rfl h7.symm)
 ·have e:itemP n= .mk true [] (n.ks.map refItemP++[.mk false n.v []]):=by unfold itemP;rw[Af hk]
  rw[e];have hmk:∀t∈n.ks.map refItemP,∃r∈n.ks,refItemP r=t:=λt ht=>BE.1 ht
  obtain⟨r1,r2⟩:=IE (ts:=n.ks.map refItemP++[.mk false n.v []]) (λt ht=>by
   rcases AS.1 ht with ht|ht
   ·obtain⟨r,hr,rfl⟩:=hmk t ht;exact VP (ho4 r hr) (h6 r hr)
   ·simp only[A3,Cb,Ec]at ht;subst ht;exact⟨G6 _ _,ID _⟩) (by
   have a1:=Jq (bs:=n.v) (by omega)
   have a2:=SA (c:=36) (ts:=n.ks.map refItemP) (λt ht=>by
    obtain⟨r,hr,rfl⟩:=hmk t ht;exact(Jk (ho4 r hr) (h6 r hr)).2.2)
   rw[Ba,h5]at a2;rw[EJ,C7,Cq,Ab,Ab,Ch];omega)
  refine⟨r1,?_,r2⟩;unfold nodeOfP;have hl17:(n.ks.map refItemP++[T.mk false n.v []]).length=17:=by simp[h5]
  rw[show(T.mk true [] (n.ks.map refItemP++[T.mk false n.v []])).its=n.ks.map refItemP++[T.mk false n.v []]from rfl,Ad (by omega),Af hl17];have hl16:(n.ks.map refItemP).length=16:=by simp[h5]
  rw[Cs (by omega),A5 (by omega),List.getD,AY (by omega),hl16];unfold branchP;rw[MS λr hr=>(Jk (ho4 r hr) (h6 r hr)).1];show(if(false=true)then none else some (⟨3,[],n.v,r0,n.ks⟩:PN))=some n;rw[Ad (by simp)];have hc:n.c=r0:=by
   rcases FM h3 with c|c|c
   ·exact PR.ext c.1 c.2.1 c.2.2
   ·omega
   ·omega
  exact Av some (PN.ext hk.symm h1.symm rfl hc.symm rfl)
def NE(n:PN):List Int:=enc (itemP n)
theorem MW(hb:isB b)(h:ND b=some n):NR n=true/\NE n=b/\decP b= .ok (itemP n):=by
 obtain⟨t,hd',hn,hr⟩:=FZ hb h;obtain⟨e1,e2,e3⟩:=G5 hb hd';obtain⟨l1,l2,l3⟩:=Ga hb hd' hn;have he:itemP n=t:=by
  obtain⟨l,bs,its⟩:=t;simp only[T.l,T.bs,T.its]at l1 l2 l3;subst l1 l2;have hbx:∀u∈its,isB (enc u):=λu hu=>S9 hb hd' hu;rcases Jo (t:= .mk true [] its) l3 hn with⟨x,y,hit,hx,hxe,hc⟩|⟨ts,y,ks,hit,h16,hy,hk,hfs,rfl⟩
  ·simp only[T.its]at hit;have hxb:isB x.bs:=by
    have:=hbx x (by rw[hit];simp);intro z hz;refine this z ?_;rw[hx,Ef,Cq,Az];split
    ·exact hz
    ·exact D9 _ hz
   have hpu:=Ni.pack_unp hxb hxe;rcases hc with⟨hlf,hy,rfl⟩|⟨hlf,c,hc,hf,rfl⟩
   ·unfold itemP;rw[Ad (by show¬(1:Int)=3;decide),Af rfl];rw[hlf]at hpu;show T.mk true [] [.mk false (packP (unpP x.bs).1 true).1 [], .mk false y.bs []]=_;rw[hpu,hit,<-hx,<-hy]
   ·unfold itemP;rw[Ad (by show¬(2:Int)=3;decide),Ad (by show¬(2:Int)=1;decide)];rw[hlf]at hpu;show T.mk true [] [.mk false (packP (unpP x.bs).1 false).1 [],refItemP c]=_;rw[hpu,hit,<-hx,(Jl hf hc).1]
  ·simp only[T.its]at hit;unfold itemP;rw[Af rfl];show T.mk true [] (ks.map refItemP++[.mk false y.bs []])=_;rw[MT hfs hk,hit,<-hy]
 refine⟨hr,?_,by rw[he];exact hd'⟩;unfold NE;rw[he,e1]
theorem Z3(ho:okN n)(h:NR n=true)(hb:isB (NE n)):ND (NE n)=some n:=
 Z1 hb (KJ (EZ ho h).1) (EZ ho h).2.1 h
end Go.Proofs.YtalhnnjpjaeakaaGreat
namespace Go.Proofs.YtalhnnjpjaeakaaGreat
variable {w0 w w' v' : World} {g o n c : Nat} {y : V} {K L : Nat → Prop} {a : Option Addr} {r : PR} {cs : List Value}
section
variable {P : Program} {md : Region.Mode} {ops : Array Oper} {Q : Exit → Act → World → Prop} {S : World → Prop} {fuel : Nat} {listed : Array Bool} {a : Act} {w : World}
theorem Bh(i d:Nat)(v:Value){o:Oper}(ho:ops[i]?=some o)(hd:o.dst=some d)(hs:Region.noSelect ops=true)(hf:Region.free md ops listed i=true)(hr:(Region.ready md ops listed).contains i=true)
 (hQ:∀c a w,Q (.panic c) (a.put o.dst v) w->Q (.panic c) a w) (hg:Region.wanted o (yielded ops a.tmps)=true) (hy:∀w,S w->(execOp a.eval o).run P w= .ok (.value v) w) (hS:S w)
 (h:wpAnyH P md ops Q S fuel (listed.setIfInBounds i true) (a.put (some d) v) w):wpAnyH P md ops Q S (fuel+1) listed a w:=
 wpAnyH_take ho hs hf hr hQ (Or.inl ⟨hg,hy⟩) hS (hd▸h)
theorem CH(i d:Nat)(v:Value){rs:List Nat}{w':World}{o:Oper}(ho:ops[i]?=some o)(hd:o.dst=some d)(hg:Region.wanted o (yielded ops a.tmps)=true)(hrun:(execOp a.eval o).run P w= .ok (.value v) w')(hS:S w')
 (h:wpAnyH P md ops Q S fuel (listed.setIfInBounds i true) (a.put (some d) v) w') (hs:AllReadyH P md ops Q S fuel listed a w rs):AllReadyH P md ops Q S fuel listed a w (i::rs):=
 Dc ho (λK hK=>by
  rw[Af hg];unfold Oper.wp;rw[hrun,Oper.upon_value];exact hK _ _ hS (λ_=>hd▸h)) hs
theorem Ek(i d:Nat){rs:List Nat}{o:Oper}(ho:ops[i]?=some o)(hd:o.dst=some d)(hg:Region.wanted o (yielded ops a.tmps)=true)(f:FuncId)(args:Array Value)(hrun:(execOp a.eval o).run P w= .ok (.enter f args) w)
 {R:Value->World->Prop} (hc:Calls P f args w λe w'=>∃v,e= .returned v/\R v w') (hSS:∀v w',R v w'->S w') (h:∀v w',R v w'->wpAnyH P md ops Q S fuel (listed.setIfInBounds i true) (a.put (some d) v) w')
 (hs:AllReadyH P md ops Q S fuel listed a w rs):AllReadyH P md ops Q S fuel listed a w (i::rs):=
 Dc ho (λK hK=>by
  rw[Af hg];unfold Oper.wp;rw[hrun,E9];refine hc.mono ?_;rintro e w'⟨v,rfl,hR⟩;exact hK _ _ (hSS v w' hR) (λ_=>hd▸h v w' hR)) hs
end
section
variable {a : Act} {w : World}
theorem FN{x:Operand}{p:Addr}{v:Value}{o:Oper}(ho:o.op= .load 27 x)(hx:a.eval x= .pointer (some p))(hc:w.cell? p=some v):(execOp a.eval o).run prog w= .ok (.value v) w:=by
 unfold execOp;rw[ho];simp only[hx];go_simp
theorem CT{x:Operand}{p:Addr}{v:Value}{o:Oper}(ho:o.op= .load 108 x)(hx:a.eval x= .pointer (some p))(hc:w.cell? p=some v):(execOp a.eval o).run prog w= .ok (.value v) w:=by
 unfold execOp;rw[ho];simp only[hx];go_simp
theorem Pl{x:Operand}{p:Addr}{v:Value}{o:Oper}(ho:o.op= .load 4 x)(hx:a.eval x= .pointer (some p))(hc:w.cell? p=some v):(execOp a.eval o).run prog w= .ok (.value v) w:=by
 unfold execOp;rw[ho];simp only[hx];go_simp
theorem GO{x:Operand}{g off:Nat}{v0 v1 v2:Value}{o:Oper}(ho:o.op= .load 110 x)(hx:a.eval x= .pointer (some ⟨g,off,none⟩))(h0:w.cell? ⟨g,off,none⟩=some v0)(h1:w.cell? ⟨g,off+1,none⟩=some v1)(h2:w.cell? ⟨g,off+2,none⟩=some v2):(execOp a.eval o).run prog w= .ok (.value (.agg #[v0,v1,v2])) w:=by
 unfold execOp;rw[ho];simp only[hx];go_simp
theorem ES{x y:Operand}{g off j m c:Nat}{o:Oper}(ho:o.op= .indexAddr 108 x y)(hx:a.eval x= .slice (some ⟨g,off,none⟩) m c)(hy:a.eval y= .int .i64 j)(hj:j<m):(execOp a.eval o).run prog w= .ok (.value (.pointer (some ⟨g,off+j*3,none⟩))) w:=by
 have hji:(j:Int)<m:=by omega
 unfold execOp;rw[ho];simp only[hx,hy];go_simp
end
theorem below_go(h:Below w0.heap.size w0 w)(hb:Below w.heap.size w w'):Below w0.heap.size w0 w':=h.trans (hb.mono h.size)
theorem AM(hb:Below w.heap.size w w'){v:Value}(h:w.cell? ⟨g,o,none⟩=some v):w'.cell? ⟨g,o,none⟩=some v:=(hb.cell (p:=⟨g,o,none⟩) (Aj h)).trans h
theorem ag_nil(w:World):Ag w none 0 0 []:=⟨.inl ⟨rfl,rfl⟩,λ_=>⟨rfl,rfl⟩,rfl,λx hx=>by cases hx⟩
structure B1(g:Nat)(v:World)(y:V):Prop where
 c0:v.cell? ⟨g,0,none⟩=some (.bool y.l)
 c1:v.cell? ⟨g,1,none⟩=some (.slice y.ba y.bn y.bc)
 c2:v.cell? ⟨g,2,none⟩=some (.slice y.ia y.m y.ic)
theorem B1.go{v:World}(h:B1 g v y)(hb:Below v.heap.size v v'):B1 g v' y:=⟨AM hb h.c0,AM hb h.c1,AM hb h.c2⟩
theorem E5(w:World)(y:V):B1 w.heap.size (w.alloc (.cells #[.bool y.l, .slice y.ba y.bn y.bc, .slice y.ia y.m y.ic] 110)) y:=by
 have h:=Ai w (.cells #[.bool y.l, .slice y.ba y.bn y.bc, .slice y.ia y.m y.ic] 110);exact⟨by rw[Ae _ _ _ _ _ _ h];rfl,by rw[Ae _ _ _ _ _ _ h];rfl,by rw[Ae _ _ _ _ _ _ h];rfl⟩
theorem below_new(w:World)(o:Obj):Below w.heap.size w (w.alloc o):=(Ak _ _).alloc (Aa _) _
theorem B1.alloc{v:World}(h:B1 g v y)(o:Obj):B1 g (v.alloc o) y:=h.go (below_new v o)
theorem Gr{t:T}(h:(mP t).2=0):encP t=(enc t,0):=by unfold encP;rw[Af h]
theorem Ol{t:T}(h:(mP t).2≠0):encP t=([],(mP t).2):=by unfold encP;rw[Ad h]
theorem VQ{t:T}(h:(mP t).2=0):(enc t).length<=16777220:=Lx (Jc h).2.1
def Fr(base:Nat)(w:World)(a:Option Addr)(n:Nat):Prop:=∀g off,a=some ⟨g,off,none⟩->0<n->base<=g/\∀o,w.frozen? ⟨g,o,none⟩=false
theorem IF(t:T)(x:V)(w:World)(hli:Lies w t x):
 Calls prog 54 #[.agg #[.bool x.l, .slice x.ba x.bn x.bc, .slice x.ia x.m x.ic]] w λe w'=>(∃a n c,e= .returned (.tuple #[.slice a n c, .int .i64 ((encP t).2:Nat)])/\Ag w' a n c (encP t).1/\Fr w.heap.size w' a n)/\Below w.heap.size w w':=by
 have HLI:=XaI hli;have HBY:=XaI (V6 t x hli);clear hli;by_cases h0:(mP t).2=0
 ·obtain⟨hm1,hm2,hm3⟩:=Jc h0;have hel:=Lx hm2;have he:encP t=(enc t,0):=by rw[encP,Af h0]
  rw[he];have HE:=XaI (Q6 t HBY.out hm2);have HF:=XaI hm3;have HM2:=XaI hm2;have HM1:=XaI hm1;have H0:=XaI h0;obtain⟨en,hen⟩:∃en,enc t=en:=⟨_,rfl⟩;rw[hen]at HE HM1 hel⊢;have HEN:=XaI hen;obtain⟨n,hn⟩:∃n,en.length=n:=⟨_,rfl⟩;rw[hn]at HM1 hel;have HN:=XaI hn;have hmk:=run_make_row' (P:=prog) 27 5 (.int .u8 0) 1 underlying27 info5b rfl .i64 .i64 n (by omega) (by omega);clear h0 hm1 hm2 hm3 he hen hn;go_enter func54,ntmps54;go_wp2_with fail;refine(Ki t x _ (Cg ((Ak _ _).alloc (Aa _) _) t x HLI.out)).mono ?_;rintro e w1⟨rfl,hb⟩;rw[HM1.out,H0.out];rw[show((0:Nat):Int)=0 from rfl];have hx:w1.heap[w.heap.size]?=some (.cells #[.bool x.l, .slice x.ba x.bn x.bc, .slice x.ia x.m x.ic] 110):=Below.row hb (Ai _ _);have y0:=cell_alloc (show w1.cell? ⟨w.heap.size,0,none⟩=some (.bool x.l)from by rw[Ae _ _ _ _ _ _ hx];rfl);have y1:=cell_alloc (show w1.cell? ⟨w.heap.size,1,none⟩=some (.slice x.ba x.bn x.bc)from by rw[Ae _ _ _ _ _ _ hx];rfl);have y2:=cell_alloc (show w1.cell? ⟨w.heap.size,2,none⟩=some (.slice x.ia x.m x.ic)from by rw[Ae _ _ _ _ _ _ hx];rfl);have hb1:Below w.heap.size w w1:=((Ak w.heap.size w).alloc (Aa _) _).trans (hb.mono (by simp));have hb2:Below w.heap.size w (w1.alloc (.cells (madeCells #[.int .u8 0] n) 5)):=hb1.alloc hb1.size _;have hrow:Row w1.heap.size (w1.alloc (.cells (madeCells #[.int .u8 0] n) 5)) (List.replicate n 0):=by
   unfold Row;rw[Ai,made_bytes]
  have hcal:=XH t HF.out x w1.heap.size n n (List.replicate n 0) w _ HLI.out hb2 hb1.size hrow (by simp) (Aa _) (by omega) HM2.out (by rw[HEN.out,HN.out];exact Aa _);rw[HEN.out,HN.out,Cx,BD,A6,Br (by simp),Az]at hcal;have HCAL:=XaI hcal;have HB1:=XaI hb1;have HB2:=XaI hb2;clear hcal hrow hx hb hb1 hb2;go_wp2_with fail;refine HCAL.out.mono ?_;rintro e w2⟨rfl,hr2,ht2⟩;have HR2:=XaI hr2;have HB3:=XaI (Touch.below HB2.out ht2 HB1.out.size HB2.out.size);clear hr2 ht2;go_wp2_with fail;go_ret2;refine⟨⟨_,_,_,rfl,?_,?_⟩,HB3.out⟩
  ·exact row_ag HR2.out HN.out HE.out (by omega)
  ·intro g off e _;cases e;exact⟨HB1.out.size,λo=>AL _ _ _ _ _ HR2.out⟩
 ·obtain⟨m1,hm1⟩:∃m1,(mP t).1=m1:=⟨_,rfl⟩;obtain⟨er,her⟩:∃er,(mP t).2=er:=⟨_,rfl⟩;have he:encP t=([],er):=by rw[encP,Ad h0,her]
  rw[he];rw[her]at h0;have hee:((er:Int) !=0)=true:=by rw[BL];omega
  have HM1:=XaI hm1;have HER:=XaI her;clear hm1 her h0 he;go_enter func54,ntmps54;go_wp2_with fail;refine(Ki t x _ (Cg ((Ak _ _).alloc (Aa _) _) t x HLI.out)).mono ?_;rintro e w1⟨rfl,hb⟩;rw[HM1.out,HER.out];have HB1:=XaI (((Ak w.heap.size w).alloc (Aa _) _).trans (hb.mono (by simp)));clear hb;go_wp2_with fail;go_ret2;exact⟨⟨none,0,0,rfl,⟨.inl ⟨rfl,rfl⟩,λ_=>⟨rfl,rfl⟩,rfl,λx hx=>by cases hx⟩,λg off e=>by cases e⟩,HB1.out⟩
theorem LD(w:World)(ty:TypeId)(g m dc:Nat)(a:Addr)(sCap:Nat)(cur:Array Value)(t:TypeId)(cs:List Value)
 (hg:w.heap[g]?=some (.cells cur t (0,0))) (hn:cs.length=m*3) (hsrc:∀j v,cs[j]?=some v->w.cell? (a.add j)=some v) (hfit:cs.length=cur.size) (h1:∀v∈cs,v.oneCell'=true):
 (Builtin.copy_ #[108,108] ty #[.slice (some ⟨g,0,none⟩) m dc, .slice (some a) m sCap]).run prog w= .ok (goInt m) (w.setRow g cs.toArray):=by
 have hl:=run_loadCells_list (P:=prog) w a cs hsrc;have hst:=run_storeCells_at prog g 0 t cs 0 cur w hg (by omega) h1;rw[AD,BD,A6,AD,Br (by simp[hfit]),Az]at hst;rw[hn]at hl;simp[Builtin.copy_,B7 underlying108,Builtin.lenOf,Builtin.firstCells,hl,hst]
theorem Mz(w:World)(ty:TypeId)(g dc:Nat)(a:Option Addr)(sCap:Nat)(ha:a=none->sCap=0):
 (Builtin.copy_ #[108,108] ty #[.slice (some ⟨g,0,none⟩) 0 dc, .slice a 0 sCap]).run prog w= .ok (goInt 0) w:=by
 cases a with
 |none=>
  rw[ha rfl];simp[Builtin.copy_,B7 underlying108,Builtin.lenOf,Builtin.firstCells,storeCells]
 |some a=>
  have hl:=run_loadCells_list (P:=prog) w a [] (λj v h=>by simp at h);have hl2:(loadCells a 0).run prog w= .ok #[] w:=by simpa using hl
  simp[Builtin.copy_,B7 underlying108,Builtin.lenOf,Builtin.firstCells,storeCells,hl2]
theorem TI{w:World}{ops:Array Oper}{rest:List Oper}{o:Oper}{a:Act}{Q:Exit->Act->World->Prop}(hgd:o.guard=none)(d x:Operand)
 (ho:o.op= .call {callee:= .builtin .copy,args:=#[d,x],argTypes:=#[108,108]}) (v u:Value) (hd:a.eval d=v) (hx:a.eval x=u) {v':Value} {w':World}
 (hr:(Builtin.copy_ #[108,108] o.type #[v,u]).run prog w= .ok v' w') (h:wpList prog ops Q rest (a.put o.dst v') w'):wpList prog ops Q (o::rest) a w:=by
 refine wpList_plain hgd λK hK=>?_;unfold Oper.wp;simp[execOp,ho,resolve,invoke,builtin,hd,hx,hr,Result.andThen];exact hK _ _ h
theorem Km{w:World}{a:Option Addr}:∀{ts:List T}{k:Nat},LiesAll w ts a k->∃ys:List V,ys.length=ts.length/\∀i y,ys[i]?=some y->∃g off t,At w a (k+i) t g off y
 |[],k,_=>⟨[],rfl,λi y h=>by simp at h⟩
 |t::r,k,h=>by
  obtain⟨⟨g,off,y,h1,h2,h3,h4,h5⟩,hr⟩:=liesAll_cons.1 h;obtain⟨ys,e1,e2⟩:=Km hr;refine⟨y::ys,by rw[AP,AP,e1],λi z hz=>?_⟩;cases i with
  |zero=>
   have:y=z:=(by simpa using hz);subst this;exact⟨g,off,t,h1,h2,h3,h4,h5⟩
  |succ i=>
   obtain⟨g',off',t',A⟩:=e2 i z (by simpa using hz);rw[show k+1+i=k+(i+1)from by omega]at A;exact⟨g',off',t',A⟩
theorem TJ{off:Nat}{ys:List V}(h:∀i y,ys[i]?=some y->w.cell? ⟨g,off+i*3,none⟩=some (.bool y.l)/\w.cell? ⟨g,off+i*3+1,none⟩=some (.slice y.ba y.bn y.bc)/\w.cell? ⟨g,off+i*3+2,none⟩=some (.slice y.ia y.m y.ic)):
 ∀j v,(ys.flatMap V.cells)[j]?=some v->w.cell? ((⟨g,off,none⟩:Addr).add j)=some v:=by
 intro j v hv;rw[BM];have hj:=(Aw.1 hv).1;rw[Gn]at hj;obtain⟨y,hy⟩:∃y,ys[j/3]?=some y:=⟨ys[j/3]'(by omega),Ac _⟩;have hs:=MO hy;obtain⟨q0,q1,q2⟩:=h (j/3) y hy;have hlen:(ys.take (j/3)).length=j/3:=by rw[Ap];omega
 have hr:j%3=0∨j%3=1∨j%3=2:=by omega
 have hget:∀u,(V.cells y)[j%3]?=some u->(ys.flatMap V.cells)[j]?=some u:=by
  intro u hu;have:=Fj (ys.take (j/3)) y (ys.drop (j/3+1)) (j%3) u hu;rw[<-hs,hlen,show j/3*3+j%3=j from by omega]at this;exact this
 rcases hr with e|e|e
 ·have:=hget (.bool y.l) (by rw[e];rfl);rw[hv]at this;rw[CC this,show off+j=off+j/3*3 from by omega];exact q0
 ·have:=hget (.slice y.ba y.bn y.bc) (by rw[e];rfl);rw[hv]at this;rw[CC this,show off+j=off+j/3*3+1 from by omega];exact q1
 ·have:=hget (.slice y.ia y.m y.ic) (by rw[e];rfl);rw[hv]at this;rw[CC this,show off+j=off+j/3*3+2 from by omega];exact q2
theorem TM(ys:List V):∀v∈ys.flatMap V.cells,v.oneCell'=true:=by
 intro v hv;obtain⟨y,_,hy⟩:=Cc.1 hv;exact JL y v hy
theorem VR(a:Option Addr)(m c:Nat)(ts:List T)(hm:m=ts.length/\m<=c/\c<=maxLen/\m<=140737488351232)(w:World)(hall:LiesAll w ts a 0)(hb56:56*m<=281474976710656)(hnil:a=none->c=0):
 Calls prog 118 #[.slice a m c] w λe w'=>∃ys:List V,ys.length=m/\e= .returned (.agg #[.bool true, .slice none 0 0, .slice (some ⟨w.heap.size+1,0,none⟩) m m])/\w'.heap[w.heap.size+1]?=some (.cells (ys.flatMap V.cells).toArray 110)/\(∀i y,ys[i]?=some y->∃g off t,At w a i t g off y)/\Below w.heap.size w w':=by
 obtain⟨hm1,hm2,hm3,hm4⟩:=hm;obtain⟨ys,hy1,hy2⟩:=Km hall;obtain⟨iI,hi,hz,hsz,hby⟩:=Zf;have hmk:=λw=>run_make (P:=prog) w 108 110 iI _ underlying108 hi hz .i64 .i64 m m (by omega) (by omega) (by rw[hby];omega) (by omega);rw[hsz,Int.toNat_natCast]at hmk;obtain⟨w0,hw0⟩:∃w0,w.alloc (.cells #[.bool false, .slice none 0 0, .slice none 0 0] 110)=w0:=⟨_,rfl⟩;have hs0:w0.heap.size=w.heap.size+1:=by rw[<-hw0];simp
 have hbw0:Below w.heap.size w w0:=by rw[<-hw0];exact below_new _ _
 have hres:w0.heap[w.heap.size]?=some (.cells #[.bool false, .slice none 0 0, .slice none 0 0] 110):=by rw[<-hw0];exact Ai _ _
 obtain⟨MC,hMC⟩:∃MC,madeCells (Value.agg #[.bool false, .slice none 0 0, .slice none 0 0]).cells (m*3)=MC:=⟨_,rfl⟩;rw[hMC]at hmk;have hms:MC.size=m*3:=by rw[<-hMC,size_madeCells]
 have hyl:ys.length=m:=by rw[hy1,hm1]
 obtain⟨w1,hrun,hrow1,hoth,hbel1⟩:∃w1,(∀ty,(Builtin.copy_ #[108,108] ty #[.slice (some ⟨w0.heap.size,0,none⟩) m m, .slice a m c]).run prog (w0.alloc (.cells MC 110))= .ok (goInt m) w1)/\w1.heap[w0.heap.size]?=some (.cells (ys.flatMap V.cells).toArray 110)/\w1.heap[w.heap.size]?=some (.cells #[.bool false, .slice none 0 0, .slice none 0 0] 110)/\Below w0.heap.size w0 w1:=by
  by_cases h0:m=0
  ·subst h0;have hys:ys=[]:=Ar hyl;subst hys;have hMC0:MC=#[]:=Array.eq_empty_of_size_eq_zero (by omega);subst hMC0;exact⟨_,λty=>Mz _ ty _ _ a c hnil,Ai _ _,(Au _ _ _ (by omega)).trans hres,below_new _ _⟩
  ·obtain⟨y0,hy0⟩:∃y,ys[0]?=some y:=⟨ys[0]'(by omega),Ac _⟩;obtain⟨g,off,t,A⟩:=hy2 0 y0 hy0;have ha:=A.ha;subst ha;have hbb:Below w.heap.size w (w0.alloc (.cells MC 110)):=hbw0.alloc (by omega) _
   have hcs:=TJ (w:=w0.alloc (.cells MC 110)) (g:=g) (off:=off) (ys:=ys) (λi y h=>by
    obtain⟨g',off',t',A'⟩:=hy2 i y h;have ha':=A'.ha;cases ha';have c0:=A'.c0;have c1:=A'.c1;have c2:=A'.c2;rw[AD]at c0 c1 c2;exact⟨AM hbb c0,AM hbb c1,AM hbb c2⟩)
   refine⟨_,λty=>LD _ ty w0.heap.size m m ⟨g,off,none⟩ c MC 110 (ys.flatMap V.cells) (Ai _ _) (by rw[Gn,hyl]) hcs (by rw[Gn,hyl,hms]) (TM ys),A9 _ _ _ _ _ _ (Ai _ _),?_,?_⟩
   ·rw[AW _ _ _ _ (by omega)];exact(Au _ _ _ (by omega)).trans hres
   ·exact Touch.below (below_new _ _) (Touch.setRow _ _ _) (Aa _) (by simp)
 rw[hs0]at hrun hrow1;rw[<-hw0]at hrun;have HRUN:=XaI hrun;have HROW:=XaI hrow1;have HB:=XaI (below_go hbw0 hbel1);have HRES:=XaI hoth;have x0:w1.cell? ⟨w.heap.size,0,none⟩=some (.bool false):=by rw[Ae _ _ _ _ _ _ hoth];rfl
 have x1:w1.cell? ⟨w.heap.size,1,none⟩=some (.slice none 0 0):=by rw[Ae _ _ _ _ _ _ hoth];rfl
 have x2:w1.cell? ⟨w.heap.size,2,none⟩=some (.slice none 0 0):=by rw[Ae _ _ _ _ _ _ hoth];rfl
 have xf:∀o,w1.frozen? ⟨w.heap.size,o,none⟩=false:=λo=>AL _ _ _ _ _ hoth;have HY:=XaI hy2;have HYL:=XaI hyl;clear hrun hrow1 hbel1 hoth hw0 hs0 hbw0 hres hMC hms hall hy1 hy2 hm1 hyl hi hz hsz hby hnil;go_enter func118,ntmps118;go_wp2_with (first|refine TI rfl _ _ rfl _ _ rfl rfl (HRUN.out _) ?_);have hr:=put3 HRES.out (.bool true) (.slice none 0 0) (.slice (some ⟨w.heap.size+1,0,none⟩) m m);refine Ao (AZ results118 _ _ w.heap.size 110 _ (0,0) _ rfl hr underlying110 rfl (by kernel_rfl)) rfl ?_;exact⟨ys,HYL.out,rfl,(Dn (by omega) _ _ _).trans HROW.out,λi y h=>by have:=HY.out i y h;simpa using this,Ce HB.out (Aa _) _ _ _⟩
structure RV where
 k:Int
 d:List Int
 a:Option Addr
 n:Nat
 c:Nat
def RV.cells(x:RV):List Value:= .int .i64 x.k::(x.d.map (Value.int .u8)++[.slice x.a x.n x.c])
structure NV where
 k:Int
 pa:Option Addr
 pn:Nat
 pc:Nat
 va:Option Addr
 vn:Nat
 vc:Nat
 c:RV
 ka:Option Addr
 kn:Nat
 kc:Nat
def NV.cells(x:NV):List Value:= .int .i64 x.k:: .slice x.pa x.pn x.pc:: .slice x.va x.vn x.vc::(x.c.cells++[.slice x.ka x.kn x.kc])
def AgK(K:Nat->Prop)(w:World)(a:Option Addr)(n c:Nat)(bs:List Int):Prop:=Ag w a n c bs/\n<=140737488351232/\∀g off,a=some ⟨g,off,none⟩->0<n->K g
def RefAt(K:Nat->Prop)(w:World)(x:RV)(r:PR):Prop:=x.k=r.k/\x.d=r.d/\isB r.d/\r.d.length=32/\AgK K w x.a x.n x.c r.i
def KidsAt(K:Nat->Prop)(w:World)(a:Option Addr)(ks:List PR):Prop:=∀j r,ks[j]?=some r->∃g off y,a=some ⟨g,off,none⟩/\K g/\w.rangeAt g (off+j*34) y.cells/\RefAt K w y r
structure NodeAt(K:Nat->Prop)(w:World)(x:NV)(n:PN):Prop where
 k:x.k=n.k
 p:AgK K w x.pa x.pn x.pc n.p
 v:AgK K w x.va x.vn x.vc n.v
 c:RefAt K w x.c n.c
 m:x.kn=n.ks.length/\x.kn<=x.kc/\x.kc<=maxLen/\x.kn<=2199023255488/\(x.ka=none->x.kn=0/\x.kc=0)
 ks:KidsAt K w x.ka n.ks
theorem RV.len{x:RV}(h:x.d.length=32):x.cells.length=34:=by simp[RV.cells,h]
theorem NV.len{x:NV}(h:x.c.d.length=32):x.cells.length=38:=by simp[NV.cells,RV.len h]
theorem RV.one(x:RV):∀u∈x.cells,u.oneCell'=true:=by
 intro u hu;simp only[RV.cells,A3,AS,BE,Cb,Ec]at hu;rcases hu with rfl|⟨y,_,rfl⟩|rfl<;>rfl
theorem NV.one(x:NV):∀u∈x.cells,u.oneCell'=true:=by
 intro u hu;simp only[NV.cells,A3,AS,Cb,Ec]at hu;rcases hu with rfl|rfl|rfl|hu|rfl
 ·rfl
 ·rfl
 ·rfl
 ·exact x.c.one u hu
 ·rfl
theorem TN{v:Value}(h:w.cell? ⟨g,o,none⟩=some v)(hk:g<w.heap.size->w'.heap[g]?=w.heap[g]?):w'.cell? ⟨g,o,none⟩=some v:=(Aq (w:=w) (hk (Aj h))).trans h
def Keep(K L:Nat->Prop)(w w':World):Prop:=∀g,K g->g<w.heap.size->w'.heap[g]?=w.heap[g]?/\L g
theorem AgK.go(hk:Keep K L w w'){bs:List Int}(h:AgK K w a n c bs):AgK L w' a n c bs:=by
 refine⟨Od h.1 (λg off e h0 hl=>(hk g (h.2.2 g off e h0) hl).1),h.2.1,λg off e h0=>?_⟩;obtain⟨g',off',e',_,_,hc⟩:=ag_head h.1 h0;rw[e]at e';cases e';exact(hk g (h.2.2 g off e h0) (Aj (hc 0 h0))).2
theorem RefAt.go(hk:Keep K L w w'){x:RV}(h:RefAt K w x r):RefAt L w' x r:=⟨h.1,h.2.1,h.2.2.1,h.2.2.2.1,h.2.2.2.2.go hk⟩
theorem RefAt.len{x:RV}(h:RefAt K w x r):x.d.length=32:=by rw[h.2.1];exact h.2.2.2.1
theorem ED(h:w.rangeAt g o cs)(hk:g<w.heap.size->w'.heap[g]?=w.heap[g]?):w'.rangeAt g o cs:=λj v hv=>TN (h j v hv) hk
theorem VS(h:w.rangeAt g o cs)(h0:0<cs.length):g<w.heap.size:=Aj (h 0 _ (Ac h0))
theorem KidsAt.go(hk:Keep K L w w'){ks:List PR}(h:KidsAt K w a ks):KidsAt L w' a ks:=λj r hr=>by
 obtain⟨g,off,y,e,hg,hc,hy⟩:=h j r hr;have hl:=VS hc (by rw[RV.len hy.len];omega);exact⟨g,off,y,e,(hk g hg hl).2,ED hc (λhl=>(hk g hg hl).1),hy.go hk⟩
theorem NodeAt.go(hk:Keep K L w w'){x:NV}{n:PN}(h:NodeAt K w x n):NodeAt L w' x n:=⟨h.k,h.p.go hk,h.v.go hk,h.c.go hk,h.m,h.ks.go hk⟩
theorem Keep.below(h:Below w.heap.size w w'):Keep K K w w':=λg hK hg=>⟨h.block g hg,hK⟩
theorem Keep.any(h:Below w.heap.size w w'):Keep K (λ_=>True) w w':=λg hK hg=>⟨h.block g hg,trivial⟩
def Own(base:Nat)(w:World)(g:Nat):Prop:=base<=g/\∀o,w.frozen? ⟨g,o,none⟩=false
theorem Keep.own{base base':Nat}(h:Below w.heap.size w w')(hb:base'<=base):Keep (Own base w) (Own base' w') w w':=λg hK hg=>⟨h.block g hg,Al hb hK.1,λo=>(B6 (w:=w) (h.block g hg)).trans (hK.2 o)⟩
theorem AgK.l{bs:List Int}(h:AgK K w a n c bs):bs.length=n:=h.1.l
theorem NodeAt.okN{x:NV}{n:PN}(h:NodeAt K w x n):okN n:=by
 refine⟨h.p.1.b,h.v.1.b,⟨h.c.2.2.1,h.c.2.2.2.1,h.c.2.2.2.2.1.b⟩,λr hr=>?_⟩;obtain⟨j,hj⟩:=List.getElem?_of_mem hr;obtain⟨_,_,y,_,_,_,hy⟩:=h.ks j r hj;exact⟨hy.2.2.1,hy.2.2.2.1,hy.2.2.2.2.1.b⟩
structure NBx(g:Nat)(v:World)(x:NV):Prop where
 row:v.heap[g]?=some (.cells x.cells.toArray 92)
 l:x.c.d.length=32
structure RBx(g:Nat)(v:World)(x:RV):Prop where
 row:v.heap[g]?=some (.cells x.cells.toArray 62)
 l:x.d.length=32
theorem NBx.at{v:World}{x:NV}(h:NBx g v x)(j:Nat):v.cell? ⟨g,j,none⟩=x.cells[j]?:=by rw[Ae _ _ _ _ _ _ h.row];simp
theorem RBx.at{v:World}{x:RV}(h:RBx g v x)(j:Nat):v.cell? ⟨g,j,none⟩=x.cells[j]?:=by rw[Ae _ _ _ _ _ _ h.row];simp
theorem NBx.c0{v:World}{x:NV}(h:NBx g v x):v.cell? ⟨g,0,none⟩=some (.int .i64 x.k):=h.at 0
theorem NBx.c1{v:World}{x:NV}(h:NBx g v x):v.cell? ⟨g,1,none⟩=some (.slice x.pa x.pn x.pc):=h.at 1
theorem NBx.c2{v:World}{x:NV}(h:NBx g v x):v.cell? ⟨g,2,none⟩=some (.slice x.va x.vn x.vc):=h.at 2
theorem NBx.c3{v:World}{x:NV}(h:NBx g v x):v.cell? ⟨g,3,none⟩=some (.int .i64 x.c.k):=h.at 3
theorem RV.last{x:RV}(h:x.d.length=32):x.cells[33]?=some (.slice x.a x.n x.c):=by
 rw[RV.cells,Cd,AY (by simp[h])];simp[h]
theorem NBx.c37{v:World}{x:NV}(h:NBx g v x):v.cell? ⟨g,37,none⟩=some (.slice x.ka x.kn x.kc):=by
 rw[h.at 37,NV.cells,Cd,Cd,Cd,AY (by rw[RV.len h.l];omega),RV.len h.l];rfl
theorem NBx.fz{v:World}{x:NV}(h:NBx g v x)(o:Nat):v.frozen? ⟨g,o,none⟩=false:=AL _ _ _ _ _ h.row
theorem NBx.child{v:World}{x:NV}(h:NBx g v x):v.rangeAt g 3 x.c.cells:=λj u hu=>by
 rw[h.at,NV.cells,Nat.add_comm 3 j,Cd,Cd,Cd,AV (Aw.1 hu).1];exact hu
theorem NBx.all{v:World}{x:NV}(h:NBx g v x):v.rangeAt g 0 x.cells:=λj u hu=>by rw[h.at,AD];exact hu
theorem RBx.all{v:World}{x:RV}(h:RBx g v x):v.rangeAt g 0 x.cells:=λj u hu=>by rw[h.at,AD];exact hu
theorem RBx.c0{v:World}{x:RV}(h:RBx g v x):v.cell? ⟨g,0,none⟩=some (.int .i64 x.k):=h.at 0
theorem RBx.c33{v:World}{x:RV}(h:RBx g v x):v.cell? ⟨g,33,none⟩=some (.slice x.a x.n x.c):=by rw[h.at];exact RV.last h.l
theorem RBx.fz{v:World}{x:RV}(h:RBx g v x)(o:Nat):v.frozen? ⟨g,o,none⟩=false:=AL _ _ _ _ _ h.row
theorem RBx.digest{v:World}{x:RV}(h:RBx g v x):v.rangeAt g 1 (x.d.map (Value.int .u8)):=λj u hu=>by
 rw[h.at,RV.cells,Nat.add_comm 1 j,Cd,AV (Aw.1 hu).1];exact hu
theorem NBx.go{v:World}{x:NV}(h:NBx g v x)(hb:Below v.heap.size v v'):NBx g v' x:=⟨Below.row hb h.row,h.l⟩
theorem RBx.go{v:World}{x:RV}(h:RBx g v x)(hb:Below v.heap.size v v'):RBx g v' x:=⟨Below.row hb h.row,h.l⟩
theorem E8(w:World)(x:NV)(h:x.c.d.length=32):NBx w.heap.size (w.alloc (.cells x.cells.toArray 92)) x:=⟨Ai _ _,h⟩
theorem Jr(w:World)(x:RV)(h:x.d.length=32):RBx w.heap.size (w.alloc (.cells x.cells.toArray 62)) x:=⟨Ai _ _,h⟩
theorem I5:(prog.info? 92).map (·.size)=some 38:=by kernel_rfl
theorem FO:(prog.info? 62).map (·.size)=some 34:=by kernel_rfl
theorem Zi:(prog.info? 49).map (·.size)=some 32:=by kernel_rfl
def rz:RV:=⟨0,z32,none,0,0⟩
def nz:NV:=⟨0,none,0,0,none,0,0,rz,none,0,0⟩
def DPost(w:World)(o:Option PN):Ending->World->Prop:=λe w'=>Below w.heap.size w w'/\
 match o with
 |none=>e= .returned (.tuple #[.agg nz.cells.toArray, .int .i64 50])
 |some n=>∃y:NV,e= .returned (.tuple #[.agg y.cells.toArray, .int .i64 0])/\NodeAt (Own w.heap.size w') w' y n
def DecSaid(b:List Int):Prop:=∀(a:Option Addr)(n c:Nat)(w:World),Ag w a n c b->n<=140737488351232->Calls prog 47 #[.slice a n c] w (DPost w (ND b))
theorem XN{o:Option PN}{e:Ending}(h:DPost w o e w'):Below w.heap.size w w'/\∃y:NV,∃er:Int,e= .returned (.tuple #[.agg y.cells.toArray, .int .i64 er])/\y.k=kd o/\y.c.d.length=32:=by
 obtain⟨hb,hm⟩:=h;refine⟨hb,?_⟩;cases o with
 |none=>exact⟨nz,50,hm,rfl,rfl⟩
 |some n=>
  obtain⟨y,e1,hy⟩:=hm;exact⟨y,0,e1,hy.k,hy.c.len⟩
theorem Below.setRow{B:Nat}(h:Below B w0 w)(hg:B<=g)(cs:Array Value):Below B w0 (w.setRow g cs):=
 h.trans ⟨rfl,rfl,rfl,by simp,λk hk=>AW w g k cs (by omega)⟩
theorem VT:(nz.cells.toArray:Array Value).size=38:=rfl
theorem GP(K:Nat->Prop)(x:RV)(r:PR)(w:World)(h:RefAt K w x r)(hd:DecSaid r.i):
 Calls prog 129 #[.agg x.cells.toArray] w λe w'=>e= .returned (.int .i64 (KD r.i))/\Below w.heap.size w w':=by
 have B:=Jr w x h.len;have HB:=XaI (below_new w (.cells x.cells.toArray 62));have HD:=XaI (show∀v,Below w.heap.size w v->Calls prog 47 #[.slice x.a x.n x.c] v (DPost v (ND r.i))from λv hv=>hd _ _ _ v (h.2.2.2.2.1.at hv) h.2.2.2.2.2.1);obtain⟨kr,hkr⟩:∃kr,KD r.i=kr:=⟨_,rfl⟩;have HK:=XaI (show kd (ND r.i)=kr from hkr);rw[hkr];clear h hd hkr;go_enter func129,ntmps129;go_upto_region 1 with fail;refine gen_w (p:=λv=>Code.wp _ _ _ _ v) (q:=λv=>RBx w.heap.size v x/\Below w.heap.size w v) ⟨B,HB.out⟩ ?_;clear B HB;rintro v⟨B,hb⟩;have HB:=XaI hb;have c0:=B.c33;clear hb B;go_wp2_with fail;refine(HD.out v HB.out).mono ?_;intro e w1 hp;obtain⟨hb1,y,er,rfl,hyk,hyl⟩:=XN hp;rw[HK.out]at hyk;have HB1:=XaI (below_go HB.out hb1);have HS:=XaI (show(nz.cells.toArray:Array Value).size=y.cells.toArray.size from by rw[VT,Bb,NV.len hyl]);have HI:=XaI (show(prog.info? 92).map (·.size)=some y.cells.toArray.size from by rw[I5,Bb,NV.len hyl]);have HO:=XaI (Am y.one);have HYK:=XaI hyk;have HYL:=XaI hyl;clear hp hb1 hyk hyl HD HK HB c0;go_upto_region 2 with(first|refine A4 rfl 92 _ _ rfl _ y.cells.toArray rfl rfl 92 _ (Ai w1 _) HI.out HS.out HO.out ?_);refine gen_w (p:=λv=>Code.wp _ _ _ _ v) (q:=λv=>NBx w1.heap.size v y/\Below w.heap.size w v) ⟨⟨A9 _ _ _ _ _ _ (Ai w1 _),HYL.out⟩,Below.setRow (HB1.out.alloc HB1.out.size _) HB1.out.size _⟩ ?_;rintro v2⟨B,hb⟩;have c0:=B.c0;rw[HYK.out]at c0;have HB2:=XaI hb;clear B hb;go_wp2_with fail;go_ret;exact⟨rfl,HB2.out⟩
def B8(bs:List Int):Array Value:=(bs.map (Value.int .u8)).toArray
theorem B8_size(bs:List Int):(B8 bs).size=bs.length:=by simp[B8]
theorem B8_get(bs:List Int)(k:Nat)(h:k<bs.length):(B8 bs)[k]?=some (.int .u8 (bs.getD k 0)):=by simp[B8,h]
theorem SB(xs ys:List Int)(hx:xs.length=32)(hy:ys.length=32)(d:Nat):∀(n k:Nat)(w:World),k+n=32->
 (forIn (m:=Sem) (List.range' k n) ((none:Option Bool),()) λi _=>do
   let a <-part 5 (B8 xs) (i*1)
   let b <-part 5 (B8 ys) (i*1)
   let r <-Op.equalIn (d+1) 5 a b
   if(!r)=true then pure (ForInStep.done (some false,()))else pure (ForInStep.yield (none,()))).run prog w=
   .ok (if xs.drop k==ys.drop k then(none,())else(some false,())) w
 |0,k,w,hk=>by
  have e1:xs.drop k=[]:=B5 (by omega);have e2:ys.drop k=[]:=B5 (by omega);rw[e1,e2];simp
 |n+1,k,w,hk=>by
  have ih:=SB xs ys hx hy d n (k+1) w (by omega);have hlx:k<xs.length:=by omega
  have hly:k<ys.length:=by omega
  have px:(part 5 (B8 xs) (k*1)).run prog w= .ok (.int .u8 (xs.getD k 0)) w:=by
   simp only[part,Bm,isAgg,B7 underlying5,AH,Bp,BT,DQ,Cl,B8_get xs k hlx]
  have py:(part 5 (B8 ys) (k*1)).run prog w= .ok (.int .u8 (ys.getD k 0)) w:=by
   simp only[part,Bm,isAgg,B7 underlying5,AH,Bp,BT,DQ,Cl,B8_get ys k hly]
  have pe:=run_equalIn_int w d 5 .u8 .u8 (xs.getD k 0) (ys.getD k 0) (P:=prog) underlying5;have dx:xs.drop k=xs.getD k 0::xs.drop (k+1):=by rw[Bq hlx];simp[List.getD,Ac hlx]
  have dy:ys.drop k=ys.getD k 0::ys.drop (k+1):=by rw[Bq hly];simp[List.getD,Ac hly]
  rw[List.range'_succ,List.forIn_cons];simp only[Bm,px,py,pe,AH];rw[dx,dy,List.cons_beq_cons];cases hc:(xs.getD k 0==ys.getD k 0)with
  |false=>simp
  |true=>
   simp only[Bool.not_true,BT,DQ,Bp,AH,E7];exact ih
theorem Z4(xs ys:List Int)(hx:xs.length=32)(hy:ys.length=32)(d:Nat)(w:World):
 (Op.equalIn (d+1+1) 49 (.agg (B8 xs)) (.agg (B8 ys))).run prog w= .ok (xs==ys) w:=by
 have hs:(prog.info? 5).map (·.size)=some 1:=by kernel_rfl
 cases hq:prog.info? 5 with
 |none=>simp[hq]at hs
 |some y=>
  have hy1:y.size=1:=by simpa[hq]using hs
  rw[Op.equalIn];simp only[Bm,B7 underlying49,AH,sizeOf,typeInfo,run_program,hq,hy1,Bp];have e:=SB xs ys hx hy d 32 0 w (by omega);rw[Std.Legacy.Range.forIn_eq_forIn_range'];simp only[Std.Legacy.Range.size,Cy]at e⊢;rw[show(32-0+1-1)/1=32 from rfl];rw[e];cases xs==ys<;>simp
theorem Xay(xs ys:List Int)(hx:xs.length=32)(hy:ys.length=32)(w:World):(Op.equalIn 10000 49 (.agg (B8 xs)) (.agg (B8 ys))).run prog w= .ok (xs==ys) w:=Z4 xs ys hx hy 9998 w
section
variable {w : World} {ops : Array Oper} {rest : List Oper} {o : Oper} {a : Act} {Q : Exit → Act → World → Prop}
theorem LE(hw:Region.wanted o (yielded ops a.tmps)=true)(h:∀K:Act->World->Prop,(∀a w,wpList prog ops Q rest a w->K a w)->o.wp prog a w K Q):wpList prog ops Q (o::rest) a w:=
 wpList_step λK hK=>by rw[Af hw];exact h K hK
theorem G7(hw:Region.wanted o (yielded ops a.tmps)=true)(x y:Operand)(ho:o.op= .binOp .eql 49 x y 49)(xs ys:List Int)(hx:a.eval x= .agg (B8 xs))(hy:a.eval y= .agg (B8 ys))(lx:xs.length=32)(ly:ys.length=32)(q:Bool)(hq:(xs==ys)=q)
 (h:wpList prog ops Q rest (a.put o.dst (.bool q)) w):wpList prog ops Q (o::rest) a w:=by
 subst hq;refine LE hw λK hK=>?_;have e:=Xay xs ys lx ly;unfold Oper.wp execOp;simp only[ho,hx,hy];go_simp;exact hK _ _ h
theorem G8(hw:Region.wanted o (yielded ops a.tmps)=true)(x y:Operand)(ho:o.op= .binOp .neq 49 x y 49)(xs ys:List Int)(hx:a.eval x= .agg (B8 xs))(hy:a.eval y= .agg (B8 ys))(lx:xs.length=32)(ly:ys.length=32)(q:Bool)(hq:(!(xs==ys))=q)
 (h:wpList prog ops Q rest (a.put o.dst (.bool q)) w):wpList prog ops Q (o::rest) a w:=by
 subst hq;refine LE hw λK hK=>?_;have e:=Xay xs ys lx ly;unfold Oper.wp execOp;simp only[ho,hx,hy];go_simp;exact hK _ _ h
theorem LF(hw:Region.wanted o (yielded ops a.tmps)=true)(ty:TypeId)(x:Operand)(ho:o.op= .load ty x)(b off:Nat)(hx:a.eval x= .pointer (some ⟨b,off,none⟩))(cs:List Value)(d:TypeDesc)(hc:w.rangeAt b off cs)
 (hu:prog.underlying ty=some d) (hd:d.isRow=true) (hi:(prog.info? ty).map (·.size)=some cs.length) (h:wpList prog ops Q rest (a.put o.dst (.agg cs.toArray)) w):wpList prog ops Q (o::rest) a w:=
 LE hw λ_ hK=>wp_load_mid ty x ho b off hx cs d hc hu hd hi (hK _ _ h)
theorem CF(hw:Region.wanted o (yielded ops a.tmps)=true)(x:Operand)(ho:o.op= .load 92 x)(b:Nat)(hx:a.eval x= .pointer (some ⟨b,0,none⟩))(y:NV)(hc:NBx b w y)
 (h:wpList prog ops Q rest (a.put o.dst (.agg y.cells.toArray)) w):wpList prog ops Q (o::rest) a w:=
 LF hw 92 x ho b 0 hx y.cells _ hc.all underlying92 rfl (by rw[I5,NV.len hc.l]) h
theorem Cz(hw:Region.wanted o (yielded ops a.tmps)=true)(x:Operand)(ho:o.op= .load 62 x)(b off:Nat)(hx:a.eval x= .pointer (some ⟨b,off,none⟩))(y:RV)(hl:y.d.length=32)(hc:w.rangeAt b off y.cells)
 (h:wpList prog ops Q rest (a.put o.dst (.agg y.cells.toArray)) w):wpList prog ops Q (o::rest) a w:=
 LF hw 62 x ho b off hx y.cells _ hc underlying62 rfl (by rw[FO,RV.len hl]) h
theorem E0(hw:Region.wanted o (yielded ops a.tmps)=true)(x:Operand)(ho:o.op= .load 49 x)(b off:Nat)(hx:a.eval x= .pointer (some ⟨b,off,none⟩))(ds:List Int)(hl:ds.length=32)(hc:w.rangeAt b off (ds.map (Value.int .u8)))
 (h:wpList prog ops Q rest (a.put o.dst (.agg (B8 ds))) w):wpList prog ops Q (o::rest) a w:=
 LF hw 49 x ho b off hx (ds.map (Value.int .u8)) _ hc underlying49 rfl (by rw[Zi,Ba,hl]) h
end
theorem TO:(λ(a:Option Addr)(n c:Nat)=>prog.built 62 [(0, .int .i64 1),(2, .slice a n c)])=λa n c=>some (RV.cells ⟨1,z32,a,n,c⟩).toArray:=by kernel_rfl
theorem VU(a:Option Addr)(n c:Nat):prog.built 62 [(0, .int .i64 1),(2, .slice a n c)]=some (RV.cells ⟨1,z32,a,n,c⟩).toArray:=AC (AC (AC TO a) n) c
theorem TP:(λ(pa:Option Addr)(pn pc:Nat)(va:Option Addr)(vn vc:Nat)=>prog.built 92 [(0, .int .i64 1),(1, .slice pa pn pc),(2, .slice va vn vc)])=λpa pn pc va vn vc=>some (NV.cells ⟨1,pa,pn,pc,va,vn,vc,rz,none,0,0⟩).toArray:=by kernel_rfl
theorem Js(pa:Option Addr)(pn pc:Nat)(va:Option Addr)(vn vc:Nat):prog.built 92 [(0, .int .i64 1),(1, .slice pa pn pc),(2, .slice va vn vc)]=some (NV.cells ⟨1,pa,pn,pc,va,vn,vc,rz,none,0,0⟩).toArray:=AC (AC (AC (AC (AC (AC TP pa) pn) pc) va) vn) vc
theorem TQ:(λ(va:Option Addr)(vn vc:Nat)(ka:Option Addr)(kn kc:Nat)=>prog.built 92 [(0, .int .i64 3),(2, .slice va vn vc),(4, .slice ka kn kc)])=λva vn vc ka kn kc=>some (NV.cells ⟨3,none,0,0,va,vn,vc,rz,ka,kn,kc⟩).toArray:=by kernel_rfl
theorem Pm(va:Option Addr)(vn vc:Nat)(ka:Option Addr)(kn kc:Nat):prog.built 92 [(0, .int .i64 3),(2, .slice va vn vc),(4, .slice ka kn kc)]=some (NV.cells ⟨3,none,0,0,va,vn,vc,rz,ka,kn,kc⟩).toArray:=AC (AC (AC (AC (AC (AC TQ va) vn) vc) ka) kn) kc
theorem TR:(λ(pa:Option Addr)(pn pc:Nat)(k:Int)(a:Option Addr)(n c:Nat)(d0 d1 d2 d3 d4 d5 d6 d7 d8 d9 d10 d11 d12 d13 d14 d15 d16 d17 d18 d19 d20 d21 d22 d23 d24 d25 d26 d27 d28 d29 d30 d31:Int)=>prog.built 92 [(0, .int .i64 2),(1, .slice pa pn pc),(3, .agg (RV.cells ⟨k,[d0,d1,d2,d3,d4,d5,d6,d7,d8,d9,d10,d11,d12,d13,d14,d15,d16,d17,d18,d19,d20,d21,d22,d23,d24,d25,d26,d27,d28,d29,d30,d31],a,n,c⟩).toArray)])=
 λpa pn pc k a n c d0 d1 d2 d3 d4 d5 d6 d7 d8 d9 d10 d11 d12 d13 d14 d15 d16 d17 d18 d19 d20 d21 d22 d23 d24 d25 d26 d27 d28 d29 d30 d31=>some (NV.cells ⟨2,pa,pn,pc,none,0,0,⟨k,[d0,d1,d2,d3,d4,d5,d6,d7,d8,d9,d10,d11,d12,d13,d14,d15,d16,d17,d18,d19,d20,d21,d22,d23,d24,d25,d26,d27,d28,d29,d30,d31],a,n,c⟩,none,0,0⟩).toArray:=by kernel_rfl
theorem GQ(pa:Option Addr)(pn pc:Nat)(r:RV)(h:r.d.length=32):prog.built 92 [(0, .int .i64 2),(1, .slice pa pn pc),(3, .agg r.cells.toArray)]=some (NV.cells ⟨2,pa,pn,pc,none,0,0,r,none,0,0⟩).toArray:=by
 obtain⟨k,d,a,n,c⟩:=r
 match d,h with
 |[d0,d1,d2,d3,d4,d5,d6,d7,d8,d9,d10,d11,d12,d13,d14,d15,d16,d17,d18,d19,d20,d21,d22,d23,d24,d25,d26,d27,d28,d29,d30,d31],_=>
  have e:=TR;have e:=AC e pa;have e:=AC e pn;have e:=AC e pc;have e:=AC e k;have e:=AC e a;have e:=AC e n;have e:=AC e c;have e:=AC e d0;have e:=AC e d1;have e:=AC e d2;have e:=AC e d3;have e:=AC e d4;have e:=AC e d5;have e:=AC e d6;have e:=AC e d7;have e:=AC e d8;have e:=AC e d9;have e:=AC e d10;have e:=AC e d11;have e:=AC e d12;have e:=AC e d13;have e:=AC e d14;have e:=AC e d15;have e:=AC e d16;have e:=AC e d17;have e:=AC e d18;have e:=AC e d19;have e:=AC e d20;have e:=AC e d21;have e:=AC e d22;have e:=AC e d23;have e:=AC e d24;have e:=AC e d25;have e:=AC e d26;have e:=AC e d27;have e:=AC e d28;have e:=AC e d29;have e:=AC e d30;have e:=AC e d31;exact e
end Go.Proofs.YtalhnnjpjaeakaaGreat
