/- What the document's walk answers: what is amiss with an item. -/
import Derived.Test.YtalhnnjpjaeakaaGreatAK
import Derived.Test.YtalhnnjpjaeakaaGreatG07
import Derived.Test.YtalhnnjpjaeakaaGreatG14
import Derived.Test.YtalhnnjpjaeakaaGreatG01
import Derived.Test.YtalhnnjpjaeakaaGreatG08
import Derived.Test.YtalhnnjpjaeakaaGreatG19
import Derived.Test.YtalhnnjpjaeakaaGreatG15
set_option linter.unusedVariables false
set_option maxRecDepth 100000
set_option maxHeartbeats 8000000
open Go.Proofs.Tryz Go.RowKit
namespace Go.Proofs.YtalhnnjpjaeakaaGreat
variable {w : World} {base n gI : Nat}
def WalkSaid(t:T):Prop:=∀(x:V)(w:World)(d ww:Nat),Lies w t x->d<=8->ww<=16777215->
 Calls prog 133 #[.agg #[.bool x.l, .slice x.ba x.bn x.bc, .slice x.ia x.m x.ic], .int .i64 d, .int .i64 ww] w λe w'=>e= .returned (.tuple #[.int .i64 ((wk t d ww).1:Nat), .int .i64 ((wk t d ww).2:Nat)])/\Below w.heap.size w w'
set_option maxRecDepth 20000 in
theorem U4(l:Bool)(bs:List Int)(its:List T)(ih:∀t∈its,WalkSaid t):WalkSaid (.mk l bs its):=by
 intro x w d ww hx hd hw;obtain⟨xl,xag,xm,xic,xic2,⟨xbn,xm2⟩,xall⟩:=lies_eq.1 hx;obtain⟨res,hres⟩:∃r,wk (.mk l bs its) d ww=r:=⟨_,rfl⟩;rw[hres];rw[IY]at hres;have HBX:=Xba (E5 w x);have HBN:=Xba (below_new w (.cells #[.bool x.l, .slice x.ba x.bn x.bc, .slice x.ia x.m x.ic] 110));have HX:=Xba (Ci HBN.out _ x hx);have HXM:=Xba xm;have HIH:=Xba ih;have hbl:=xag.l;obtain⟨xl',xba,xbn',xbc,xia,xm',xic'⟩:=x;simp only at xl hbl xm xbn xm2 HBX HBN HX HXM;subst xl;clear hx xag xall ih xic xic2;by_cases h21:xl'=true/\8<=d
 ·obtain⟨rfl,h8⟩:=h21;rw[Af (by simpa using h8)]at hres;subst hres;have h8i:(d:Int)>=8:=by omega
  clear hbl xm;go_enter func133,ntmps133;go_wp2_with fail;go_ret2;exact⟨rfl,HBN.out⟩
 rw[Ad (λh=>h21 (by simpa using h))]at hres;by_cases h23:wrongForm xl' bs its=true
 ·rw[Af h23]at hres;subst hres;cases xl' with
  |true=>
   have hb0:(xbn':Int)>0:=(by unfold wrongForm at h23;simp at h23;omega);have h8i:¬(d:Int)>=8:=(by have:¬8<=d:=λh=>h21 ⟨rfl,h⟩;omega);clear hbl xm h23 h21;go_enter func133,ntmps133;go_wp2_with fail;go_ret2;exact⟨rfl,HBN.out⟩
  |false=>
   have hb0:(xm':Int)>0:=(by unfold wrongForm at h23;simp at h23;omega);clear hbl xm h23 h21;go_enter func133,ntmps133;go_wp2_with fail;go_ret2;exact⟨rfl,HBN.out⟩
 rw[Ad h23]at hres;have HRES:=Xba hres;clear hres;have hwf:=EL (by simpa using h23);have hz:(xl'=true->xbn'=0)/\(xl'=false->xm'=0):=by
  cases xl' with
  |true=>
   have e:bs=[]:=(by simpa using hwf);rw[e]at hbl;exact⟨λ_=>hbl.symm,λh=>Bool.noConfusion h⟩
  |false=>
   have e:its=[]:=(by simpa using hwf);rw[e]at xm;exact⟨λh=>Bool.noConfusion h,λ_=>xm⟩
 have hwt:wt xl' bs d=if xl'&&decide (d=0)then 0 else max xbn' 1:=by rw[<-hbl];unfold wt;by_cases h0:d=0<;>simp[h0]
 have hd8:xl'=true->¬8<=d:=λh h8=>h21 ⟨h,h8⟩;rw[hwt]at HRES;obtain⟨W0,hW0⟩:∃W0,ww+(if xl'&&decide (d=0)then 0 else max xbn' 1)=W0:=⟨_,rfl⟩;rw[hW0]at HRES;have hW0b:W0<=16777215+140737488351232:=by rw[<-hW0];split<;>omega
 have HH:=Xba hW0;have HD8:=Xba hd8;obtain⟨W,hW⟩:∃W,w.alloc (.cells #[.bool xl', .slice xba xbn' xbc, .slice xia xm' xic'] 110)=W:=⟨_,rfl⟩;have HWW:=Xba hW;have hch:Hid (∀v,Below W.heap.size W v->B1 w.heap.size v ⟨xl',xba,xbn',xbc,xia,xm',xic'⟩):=Xba λv hb=>by rw[hW]at HBX;exact HBX.out.go hb
 rw[hW]at HBX HBN HX;clear hbl xm h23 h21 hwf hwt hd8 hW0 hW;cases xl' with
 |false=>
  have hm0:=hz.2 rfl;subst hm0;have hh:=HH.out;rw[Ad (by simp)]at hh;clear hz;by_cases hb1:1<xbn'
  ·have hbi:(xbn':Int)>1:=(by omega);have hsum:(ww:Int)+xbn'=W0:=(by omega);clear hh;by_cases hlong:16777215<W0
   ·have hli:(W0:Int)>16777215:=(by omega);have hr:=HRES.out;rw[Af hlong]at hr;subst hr;go_enter func133,ntmps133;go_wp2_with fail;go_ret2;exact⟨rfl,by rw[HWW.out];exact HBN.out⟩
   have hli:¬(W0:Int)>16777215:=(by omega);have hr:=HRES.out;rw[Ad hlong]at hr;have HR2:=Xba hr;clear hr HRES;go_enter func133,ntmps133;go_wp2_with fail;rw[HWW.out]
   go_loopw [2,8] (λp q v=>∃(u cur:Nat),u<=0/\q= .int .i64 u/\p= .int .i64 cur/\wks (its.take u) (d+1) W0=(cur,0)/\cur<=16777215/\Below W.heap.size W v) (λ_ q _=>0-(intOf q).toNat)
   case atStart=>exact⟨0,W0,by omega,rfl,rfl,by rw[BD,Ej],by omega,Ak _ _⟩
   case round=>
    obtain⟨u,cur,hu,rfl,rfl,hcur,hcb,hbv⟩:=hrel;obtain⟨c0,c1,c2⟩:=hch.out _ hbv;simp only at c0 c1 c2;have HBV:=Xba hbv;have HCU:=Xba hcur;clear hbv hcur;have hui:¬(u:Int)<0:=(by omega);have hr:=HR2.out;rw[<-A5 (l:=its) (i:=u) (by rw[<-HXM.out];omega),HCU.out]at hr;subst hr;go_wp2_with fail;go_ret2;exact⟨rfl,below_go HBN.out HBV.out⟩
  ·have hbi:¬(xbn':Int)>1:=(by omega);have hsum:(ww:Int)+1=W0:=(by omega);clear hh;by_cases hlong:16777215<W0
   ·have hli:(W0:Int)>16777215:=(by omega);have hr:=HRES.out;rw[Af hlong]at hr;subst hr;go_enter func133,ntmps133;go_wp2_with fail;go_ret2;exact⟨rfl,by rw[HWW.out];exact HBN.out⟩
   have hli:¬(W0:Int)>16777215:=(by omega);have hr:=HRES.out;rw[Ad hlong]at hr;have HR2:=Xba hr;clear hr HRES;go_enter func133,ntmps133;go_wp2_with fail;rw[HWW.out]
   go_loopw [2,8] (λp q v=>∃(u cur:Nat),u<=0/\q= .int .i64 u/\p= .int .i64 cur/\wks (its.take u) (d+1) W0=(cur,0)/\cur<=16777215/\Below W.heap.size W v) (λ_ q _=>0-(intOf q).toNat)
   case atStart=>exact⟨0,W0,by omega,rfl,rfl,by rw[BD,Ej],by omega,Ak _ _⟩
   case round=>
    obtain⟨u,cur,hu,rfl,rfl,hcur,hcb,hbv⟩:=hrel;obtain⟨c0,c1,c2⟩:=hch.out _ hbv;simp only at c0 c1 c2;have HBV:=Xba hbv;have HCU:=Xba hcur;clear hbv hcur;have hui:¬(u:Int)<0:=(by omega);have hr:=HR2.out;rw[<-A5 (l:=its) (i:=u) (by rw[<-HXM.out];omega),HCU.out]at hr;subst hr;go_wp2_with fail;go_ret2;exact⟨rfl,below_go HBN.out HBV.out⟩
 |true=>
  have hm0:=hz.1 rfl;subst hm0;have hh:=HH.out;have h8i:¬(d:Int)>=8:=by have:=HD8.out rfl;omega
  clear hz;by_cases hd0:d=0
  ·rw[Af (by simp[hd0])]at hh;have hsum:(ww:Int)=W0:=(by omega);have hdi:¬(d:Int)>0:=(by omega);clear hh hd0;have hlong:¬16777215<W0:=(by omega);have hli:¬(W0:Int)>16777215:=(by omega);have hr:=HRES.out;rw[Ad hlong]at hr;have HR2:=Xba hr;clear hr HRES;go_enter func133,ntmps133;go_wp2_with fail;rw[HWW.out]
   go_loopw [2,8] (λp q v=>∃(u cur:Nat),u<=xm'/\q= .int .i64 u/\p= .int .i64 cur/\wks (its.take u) (d+1) W0=(cur,0)/\cur<=16777215/\Below W.heap.size W v) (λ_ q _=>xm'-(intOf q).toNat)
   case atStart=>exact⟨0,W0,by omega,rfl,rfl,by rw[BD,Ej],by omega,Ak _ _⟩
   case round=>
    obtain⟨u,cur,hu,rfl,rfl,hcur,hcb,hbv⟩:=hrel;obtain⟨c0,c1,c2⟩:=hch.out _ hbv;simp only at c0 c1 c2;have HBV:=Xba hbv;have HCU:=Xba hcur;clear hbv hcur;by_cases hlt:u<xm'
    case pos=>
     have hui:(u:Int)<xm':=(by omega);obtain⟨t,ht⟩:∃t,its[u]?=some t:=⟨its[u]'(by have:=HXM.out;omega),Ac _⟩;obtain⟨g,off,y,A⟩:=DX (lies_eq.1 HX.out).2.2.2.2.2.2 u t ht;rw[AD]at A;have ha:xia=some ⟨g,off,none⟩:=A.ha;subst ha;have y0:=AN HBV.out A.c0;have y1:=AN HBV.out A.c1;have y2:=AN HBV.out A.c2;have hdd:=HD8.out (by simp);have hcal:=HIH.out t (AK ht) y wr (d+1) cur (Ci HBV.out t y A.li) (by omega) hcb;rw[show((d+1:Nat):Int)=(d:Int)+1 from by omega]at hcal;have HC:=Xba hcal;have HT:=Xba ht;have hbnd:=Lz (t:=t) (d:=d+1) (w:=cur) (by omega) hcb;clear hcal ht A;go_wp2_with fail;refine HC.out.mono ?_;rintro e w1⟨rfl,hb1⟩;have HB1:=Xba (below_go HBV.out hb1);clear hb1 HC;by_cases h0:(wk t (d+1) cur).2=0
     ·have hb0:=hbnd h0;have hmore:=Lx HT.out HCU.out h0;rw[h0];obtain⟨c3,hc3⟩:∃c3,(wk t (d+1) cur).1=c3:=⟨_,rfl⟩;rw[hc3]at hb0 hmore⊢;rw[show((0:Nat):Int)=0 from rfl];have HMO:=Xba hmore;clear hbnd hmore h0 hc3;go_wp2_with fail;exact⟨⟨u+1,c3,by omega,by simp,rfl,HMO.out,by omega,HB1.out⟩,by simp[intOf];omega⟩
     ·have hfail:=Ly HT.out HCU.out h0;rw[HR2.out]at hfail;subst hfail;obtain⟨c3,hc3⟩:∃c3,(wk t (d+1) cur).1=c3:=⟨_,rfl⟩;obtain⟨e3,he3⟩:∃e3,(wk t (d+1) cur).2=e3:=⟨_,rfl⟩;rw[he3]at h0;rw[hc3,he3];have hee:((e3:Int) !=0)=true:=(by rw[BL];omega);clear hbnd h0;go_wp2_with fail;go_ret2;exact⟨by rw[hc3,he3];rfl,below_go HBN.out HB1.out⟩
    have hui:¬(u:Int)<xm':=(by omega);have hr:=HR2.out;rw[<-A5 (l:=its) (i:=u) (by rw[<-HXM.out];omega),HCU.out]at hr;subst hr;go_wp2_with fail;go_ret2;exact⟨rfl,below_go HBN.out HBV.out⟩
  ·have hdi:(d:Int)>0:=(by omega);rw[Ad (by simp[hd0])]at hh;have hsum:(ww:Int)+1=W0:=(by omega);clear hh;by_cases hlong:16777215<W0
   ·have hli:(W0:Int)>16777215:=(by omega);have hr:=HRES.out;rw[Af hlong]at hr;subst hr;go_enter func133,ntmps133;go_wp2_with fail;go_ret2;exact⟨rfl,by rw[HWW.out];exact HBN.out⟩
   have hli:¬(W0:Int)>16777215:=(by omega);have hr:=HRES.out;rw[Ad hlong]at hr;have HR2:=Xba hr;clear hr HRES;go_enter func133,ntmps133;go_wp2_with fail;rw[HWW.out]
   go_loopw [2,8] (λp q v=>∃(u cur:Nat),u<=xm'/\q= .int .i64 u/\p= .int .i64 cur/\wks (its.take u) (d+1) W0=(cur,0)/\cur<=16777215/\Below W.heap.size W v) (λ_ q _=>xm'-(intOf q).toNat)
   case atStart=>exact⟨0,W0,by omega,rfl,rfl,by rw[BD,Ej],by omega,Ak _ _⟩
   case round=>
    obtain⟨u,cur,hu,rfl,rfl,hcur,hcb,hbv⟩:=hrel;obtain⟨c0,c1,c2⟩:=hch.out _ hbv;simp only at c0 c1 c2;have HBV:=Xba hbv;have HCU:=Xba hcur;clear hbv hcur;by_cases hlt:u<xm'
    case pos=>
     have hui:(u:Int)<xm':=(by omega);obtain⟨t,ht⟩:∃t,its[u]?=some t:=⟨its[u]'(by have:=HXM.out;omega),Ac _⟩;obtain⟨g,off,y,A⟩:=DX (lies_eq.1 HX.out).2.2.2.2.2.2 u t ht;rw[AD]at A;have ha:xia=some ⟨g,off,none⟩:=A.ha;subst ha;have y0:=AN HBV.out A.c0;have y1:=AN HBV.out A.c1;have y2:=AN HBV.out A.c2;have hdd:=HD8.out (by simp);have hcal:=HIH.out t (AK ht) y wr (d+1) cur (Ci HBV.out t y A.li) (by omega) hcb;rw[show((d+1:Nat):Int)=(d:Int)+1 from by omega]at hcal;have HC:=Xba hcal;have HT:=Xba ht;have hbnd:=Lz (t:=t) (d:=d+1) (w:=cur) (by omega) hcb;clear hcal ht A;go_wp2_with fail;refine HC.out.mono ?_;rintro e w1⟨rfl,hb1⟩;have HB1:=Xba (below_go HBV.out hb1);clear hb1 HC;by_cases h0:(wk t (d+1) cur).2=0
     ·have hb0:=hbnd h0;have hmore:=Lx HT.out HCU.out h0;rw[h0];obtain⟨c3,hc3⟩:∃c3,(wk t (d+1) cur).1=c3:=⟨_,rfl⟩;rw[hc3]at hb0 hmore⊢;rw[show((0:Nat):Int)=0 from rfl];have HMO:=Xba hmore;clear hbnd hmore h0 hc3;go_wp2_with fail;exact⟨⟨u+1,c3,by omega,by simp,rfl,HMO.out,by omega,HB1.out⟩,by simp[intOf];omega⟩
     ·have hfail:=Ly HT.out HCU.out h0;rw[HR2.out]at hfail;subst hfail;obtain⟨c3,hc3⟩:∃c3,(wk t (d+1) cur).1=c3:=⟨_,rfl⟩;obtain⟨e3,he3⟩:∃e3,(wk t (d+1) cur).2=e3:=⟨_,rfl⟩;rw[he3]at h0;rw[hc3,he3];have hee:((e3:Int) !=0)=true:=(by rw[BL];omega);clear hbnd h0;go_wp2_with fail;go_ret2;exact⟨by rw[hc3,he3];rfl,below_go HBN.out HB1.out⟩
    have hui:¬(u:Int)<xm':=(by omega);have hr:=HR2.out;rw[<-A5 (l:=its) (i:=u) (by rw[<-HXM.out];omega),HCU.out]at hr;subst hr;go_wp2_with fail;go_ret2;exact⟨rfl,below_go HBN.out HBV.out⟩
theorem WR:∀t,WalkSaid t:=T.ind U4
theorem FF(base n:Nat)(hb:base<=192)(hn:n<16777216)(w:World):
 Calls prog 144 #[.int .i64 base, .int .i64 n] w λe w'=>e= .returned (.slice (some ⟨w.heap.size,0,none⟩) (hd base n).length (hd base n).length)/\Row w.heap.size w' (hd base n)/\Below w.heap.size w w':=by
 by_cases h5:n<=55
 ·have e:hd base n=[((base+n:Nat):Int)]:=by unfold hd;rw[Af h5]
  rw[e];have hi:(n:Int)<=55:=by omega
  clear e;go_enter func144,ntmps144;go_wp2_with fail;go_ret;exact⟨rfl,by unfold Row;rw[Ai];simp,(Ak _ _).alloc (Aa _) _⟩
 have h5i:¬(n:Int)<=55:=by omega
 by_cases h6:n<256
 ·have e:hd base n=[((base+56:Nat):Int),(n:Int)]:=by
   unfold hd;rw[Ad h5,Vu (by omega) h6,Ol (by omega) h6]
  rw[e];have hi:(n:Int)<256:=by omega
  clear e;go_enter func144,ntmps144;go_wp2_with fail;go_ret;exact⟨rfl,by unfold Row;rw[Ai];simp,(Ak _ _).alloc (Aa _) _⟩
 have h6i:¬(n:Int)<256:=by omega
 by_cases h7:n<65536
 ·have e:hd base n=[((base+57:Nat):Int),((n/256:Nat):Int),((n%256:Nat):Int)]:=by
   unfold hd;rw[Ad h5,Vv (by omega) h7,Om (by omega) h7]
  rw[e];have hi:(n:Int)<65536:=by omega
  have q1:(n:Int)/256<256:=by omega
  clear e;go_enter func144,ntmps144;go_wp2_with fail;go_ret;exact⟨rfl,by unfold Row;rw[Ai];simp,(Ak _ _).alloc (Aa _) _⟩
 have h7i:¬(n:Int)<65536:=by omega
 have e:hd base n=[((base+58:Nat):Int),((n/65536:Nat):Int),((n/256%256:Nat):Int),((n%256:Nat):Int)]:=by
  unfold hd;rw[Ad h5,Vw (by omega) hn,IX (by omega) hn]
 rw[e];have q1:(n:Int)/65536<256:=by omega
 clear e;go_enter func144,ntmps144;go_wp2_with fail;go_ret;exact⟨rfl,by unfold Row;rw[Ai];simp,(Ak _ _).alloc (Aa _) _⟩
theorem U5(w:World)(base:Nat):OwnB w base (.slice none 0 0) []:=⟨rfl, .inl ⟨rfl,rfl⟩⟩
theorem YL{g:Nat}{bs:List Int}(h:Row g w bs)(base:Nat)(hb:base<=g)(hl:bs.length<=1000):OwnB w base (.slice (some ⟨g,0,none⟩) bs.length bs.length) bs:=by
 refine⟨by rw[AY,Ce], .inr ⟨g,bs.length,_,rfl,hb,h,Aa _,by unfold maxLen;omega,by simp,by rw[Ce];exact A5 (by simp)⟩⟩
theorem OK(h:n<16777216):(hd base n).length<=4:=by
 rw[hd_len];have:=G6 h;split<;>omega
theorem Xa8(hb:base<=192)(hn:n<16777216):∀z∈hd base n,0<=z/\z<256:=by
 have h3:=G6 hn;unfold hd;split
 ·intro z hz;have e:z=((base+n:Nat):Int):=by simpa using hz
  omega
 ·intro z hz;rcases Az.1 hz with e|hz
  ·omega
  ·exact Na n z hz
def Nw(base:Nat)(a:Option Addr):Prop:=∀g off,a=some ⟨g,off,none⟩->base<=g
theorem OwnB.agn{v:Value}{bs:List Int}(h:OwnB w base v bs)(hb:∀x∈bs,0<=x/\x<256):∃a cap,v= .slice a bs.length cap/\Ag w a bs.length cap bs/\Nw base a:=by
 obtain⟨a,cap,e,hag⟩:=OwnB.ag h hb;refine⟨a,cap,e,hag,λg off ha=>?_⟩;subst ha;rw[e]at h;exact OwnB.lt h g rfl
theorem Nw.mono{b b':Nat}{a:Option Addr}(h:Nw b a)(hb:b'<=b):Nw b' a:=λg off e=>Al hb (h g off e)
def BytesSaid(t:T):Prop:=∀(x:V)(w:World),Lies w t x->(bodyOf t).length<=16777215->
 Calls prog 135 #[.agg #[.bool x.l, .slice x.ba x.bn x.bc, .slice x.ia x.m x.ic]] w λe w'=>(∃a n c,e= .returned (.slice a n c)/\Ag w' a n c (enc t)/\(x.l=true->Nw w.heap.size a))/\Below w.heap.size w w'
structure Gb(W:World)(B:Nat)(bs:List Int)(its:List T)(j:Nat)(q:Value)(v:World)(cur:List Int):Prop where
 own:OwnB v B q cur
 eq:cur=bs++encs (its.take j)
 bel:Below B W v
 by8:∀x∈cur,0<=x/\x<256
theorem Rt(l:Bool)(bs:List Int)(its:List T)(ih:∀t∈its,BytesSaid t)(x:V)(w:World)(hx:Lies w (.mk l bs its) x)(hlen:(bs++encs its).length<=16777215):
 Calls prog 145 #[.agg #[.bool x.l, .slice x.ba x.bn x.bc, .slice x.ia x.m x.ic]] w λe w'=>(∃a n c,e= .returned (.slice a n c)/\Ag w' a n c (bs++encs its))/\Below w.heap.size w w':=by
 obtain⟨xl,xag,xm,xic,xic2,⟨xbn,xm2⟩,xall⟩:=lies_eq.1 hx;have HBN:=Xba (below_new w (.cells #[.bool x.l, .slice x.ba x.bn x.bc, .slice x.ia x.m x.ic] 110));have HBX:=Xba (E5 w x);have HX:=Xba (Ci HBN.out _ x hx);have HAG:=Xba (xag.at HBN.out);have HXM:=Xba xm;have HIH:=Xba ih;have HLEN:=Xba hlen;have hbl:=xag.l;rw[Ab]at hlen;obtain⟨W,hW⟩:∃W,w.alloc (.cells #[.bool x.l, .slice x.ba x.bn x.bc, .slice x.ia x.m x.ic] 110)=W:=⟨_,rfl⟩;have hsz:W.heap.size=w.heap.size+1:=by rw[<-hW];simp
 have HWW:=Xba hW;rw[hW]at HBN HBX HX HAG;clear hx xag xall xm xl ih xic xic2 hW;obtain⟨xl,xba,xbn',xbc,xia,xm',xic'⟩:=x;simp only at xbn xm2 HBX HX HAG HXM hbl HWW;obtain⟨c0,c1,c2⟩:=HBX.out;simp only at c0 c1 c2;go_enter func145,ntmps145;go_upto_region 2 with fail;rw[HWW.out];go_wp2_with (first|(at_builtin;refine DB rfl (.tmp 5) (.tmp 7) rfl W.heap.size _ [] rfl (U5 W _) xba xbn' xbc bs rfl HAG.out.i HAG.out.nil HAG.out.l (by simp;omega) (Aa _) ?_;intro v1 w1 o1 hb1;rw[A6]at o1;have HO1:=Xba o1;have HB1:=Xba hb1;clear o1 hb1))
 go_loopw [3,4] (λq i v=>∃(j:Nat)(cur:List Int),j<=xm'/\i= .int .i64 j/\Gb W W.heap.size bs its j q v cur) (λ_ i _=>xm'-(intOf i).toNat)
 case atStart=>exact⟨0,bs,by omega,rfl,⟨HO1.out,by rw[BD,Cq,A3],HB1.out,HAG.out.b⟩⟩
 case round=>
  clear HO1 HB1;obtain⟨j,cur,hj,rfl,G⟩:=hrel;obtain⟨d0,d1,d2⟩:=HBX.out.go G.bel;simp only at d0 d1 d2;have HG:=Xba G;clear G;by_cases hlt:j<xm'
  ·have hji:(j:Int)<xm':=(by omega);obtain⟨t,ht⟩:∃t,its[j]?=some t:=⟨its[j]'(by have:=HXM.out;omega),Ac _⟩;obtain⟨g,off,y,A⟩:=DX (lies_eq.1 HX.out).2.2.2.2.2.2 j t ht;rw[AD]at A;have ha:xia=some ⟨g,off,none⟩:=A.ha;subst ha;have y0:=AN HG.out.bel A.c0;have y1:=AN HG.out.bel A.c1;have y2:=AN HG.out.bel A.c2;have hmem:=AK ht;have a1:=Fn t;have a2:=Fo hmem;have hcal:=HIH.out t hmem y wr (Ci HG.out.bel t y A.li) (by omega);have hcl:(cur++enc t).length<=16777215:=by
    rw[HG.out.eq,AE];have e1:encs (its.take (j+1))=encs (its.take j)++enc t:=(by rw[DK ht,EJ,C7,Cq,A3]);have e2:(encs (its.take (j+1)++its.drop (j+1))).length=(encs its).length:=(by rw[Bf]);rw[EJ,Ab,e1,Ab]at e2;rw[Ab,Ab];omega
   rw[Ab]at hcl;have HC:=Xba hcal;have HT:=Xba ht;clear hcal ht A a1 a2 hmem;go_wp2_with fail;refine HC.out.mono ?_;rintro e w1⟨⟨a1,n1,c1',rfl,hag1,-⟩,hb1⟩;have hl1:=hag1.l;have HA1:=Xba hag1;have HO1:=Xba (HG.out.own.below hb1);have hbb:=HG.out.bel.trans (hb1.mono HG.out.bel.size);have HB1:=Xba hbb;have HMEM:=Xba (KO HG.out.by8 hag1.b);clear hag1 hb1 hbb HC d0 d1 d2 c0 c1 c2;go_wp2_with (first|(at_builtin;refine DB rfl (.tmp 16) (.tmp 22) rfl W.heap.size _ cur rfl HO1.out a1 n1 c1' (enc t) rfl HA1.out.i HA1.out.nil HA1.out.l (by omega) HB1.out.size ?_;intro v2 w2 o2 hb2;obtain⟨a2,c2',rfl,hag2⟩:=OwnB.ag o2 HMEM.out;have HO2:=Xba o2;have HB2:=Xba (HB1.out.trans hb2);clear o2 hb2 hag2;generalize hgl:(cur++enc t).length=len2 at HO2⊢;clear hgl));refine⟨⟨j+1,cur++enc t,by omega,by simp,⟨HO2.out,?_,HB2.out,HMEM.out⟩⟩,by simp[intOf];omega⟩;rw[HG.out.eq,DK HT.out,EJ,C7,Cq,A3,AE]
  ·have hji:¬(j:Int)<xm':=(by omega);have htk:its.take j=its:=A5 (by rw[<-HXM.out];omega);have heq:=HG.out.eq;rw[htk]at heq;subst heq;obtain⟨ba,bc,hq,hagb⟩:=OwnB.ag HG.out.own HG.out.by8;subst hq;have HAB:=Xba hagb;obtain⟨L,hL⟩:∃L,(bs++encs its).length=L:=⟨_,rfl⟩;rw[hL]at HAB⊢;clear hagb htk hL;go_wp2_with fail;go_ret;exact⟨⟨_,_,_,rfl,HAB.out⟩,HBN.out.trans (HG.out.bel.mono (by omega))⟩
theorem Qb(l:Bool)(bs:List Int)(its:List T)(ih:∀t∈its,BytesSaid t):BytesSaid (.mk l bs its):=by
 intro x w hx hlen;have hlen2:(bs++encs its).length<=16777215:=hlen;have xl:=(lies_eq.1 hx).1;have HBN:=Xba (below_new w (.cells #[.bool x.l, .slice x.ba x.bn x.bc, .slice x.ia x.m x.ic] 110));have HBX:=Xba (E5 w x);have hcal:=Rt l bs its ih x _ (Ci HBN.out _ x hx) hlen2;have HC:=Xba hcal;have henc:=Ef l bs its;obtain⟨body,hbody⟩:∃body,bs++encs its=body:=⟨_,rfl⟩;rw[hbody]at HC henc hlen2;obtain⟨E,hE⟩:∃E,enc (.mk l bs its)=E:=⟨_,rfl⟩;rw[hE];rw[hE]at henc;have HEN:=Xba henc;obtain⟨xl',xba,xbn,xbc,xia,xm,xic⟩:=x;simp only at xl HC HBX HBN;subst xl;clear hx hcal henc hbody hlen ih hE;go_enter func135,ntmps135;go_wp2_with fail;refine HC.out.mono ?_;rintro e w1⟨⟨a1,n1,c1,rfl,hag1⟩,hb1⟩;obtain⟨d0,d1,d2⟩:=HBX.out.go hb1;simp only at d0 d1 d2;have HB1:=Xba (below_go HBN.out hb1);have hl1:=hag1.l;have HA1:=Xba hag1;have hfull:∀(base:Nat),base=baseOf xl'->base<=192->∀w2,Below w1.heap.size w1 w2->Row w1.heap.size w2 (hd base n1)->OwnB w2 w1.heap.size (.slice (some ⟨w1.heap.size,0,none⟩) (hd base n1).length (hd base n1).length) (hd base n1)/\(hd base n1).length<=4/\∀z∈hd base n1++body,0<=z/\z<256:=by
  intro base _ hb w2 _ hrow;have h4:=OK (base:=base) (n:=n1) (by omega);exact⟨YL hrow _ (Aa _) (by omega),h4,KO (Xa8 hb (by omega)) hag1.b⟩
 have HF:=Xba hfull;clear hag1 hb1 HC hfull HBX HBN;have hn24:n1<16777216:=by omega
 by_cases hbare:bare xl' body=true
 ·have hbr:=hbare;unfold bare at hbr;simp only[BJ,CQ]at hbr;obtain⟨b1,b2,b3⟩:=hbr;have bx:xl'=false:=by simpa using b1
  subst bx;have hn1:n1=1:=by omega
  subst hn1;have HRE:Hid (E=body):=Xba (by rw[HEN.out,Af hbare]);obtain⟨g,off,rfl,hc1,hc2,hc⟩:=ag_head HA1.out (by omega);unfold maxLen at hc2;have hc0:=hc 0 (by omega);rw[C5]at hc0;have hh:body.getD 0 0=body.headD 0:=by cases body<;>rfl
  have hz:=(HA1.out.b (body.getD 0 0) (by rw[List.getD,Ac (by omega)];exact Bo _)).1;rw[<-hh]at b3;generalize body.getD 0 0=z at*;clear hc hbare b1 b2 hh hl1;go_wp2_with fail;go_ret;exact⟨⟨_,_,_,rfl,by rw[HRE.out];exact HA1.out,by first|exact(λh=>by cases h)|simp⟩,HB1.out⟩
 cases xl' with
 |true=>
  have HRE:Hid (E=hd 192 n1++body):=Xba (by rw[HEN.out,Ad hbare,hl1];rfl);clear hbare hl1;go_wp2_with fail;refine(FF 192 n1 (by decide) (by omega) _).mono ?_;rintro e w2⟨rfl,hrow,hb2⟩;obtain⟨o2,h4,h256⟩:=HF.out 192 rfl (by decide) w2 hb2 hrow;have HO2:=Xba o2;have H256:=Xba h256;have HA2:=Xba (HA1.out.at hb2);have HB2:=Xba (below_go HB1.out hb2);have hz:=HB1.out.size;have hz2:=hb2.size;obtain⟨K,hK⟩:∃K,(hd 192 n1).length=K:=⟨_,rfl⟩;rw[hK]at HO2 h4⊢;have HKK:=Xba hK;clear o2 h256 hrow hb2 hK;go_wp2_with (first|(at_builtin;refine DB rfl (.tmp 29) (.tmp 30) rfl w1.heap.size _ (hd 192 n1) rfl HO2.out _ n1 c1 body rfl HA2.out.i HA2.out.nil HA2.out.l (by rw[HKK.out];omega) hz2 ?_;intro v3 w3 o3 hb3;obtain⟨a3,c3,rfl,hag3,hnw3⟩:=OwnB.agn o3 H256.out;have HNW:=Xba (hnw3.mono hz);have HA3:=Xba hag3;have HB3:=Xba (HB2.out.trans (hb3.mono hz));clear o3 hag3 hb3 hnw3;generalize hgl:(hd 192 n1++body).length=len3 at HA3⊢;clear hgl));go_ret;exact⟨⟨_,_,_,rfl,by rw[HRE.out];exact HA3.out,by first|exact HNW.out|exact λ_=>HNW.out⟩,HB3.out⟩
 |false=>
  have HRE:Hid (E=hd 128 n1++body):=Xba (by rw[HEN.out,Ad hbare,hl1];rfl);by_cases hn1:n1=1
  ·have hnb:((n1:Int)==1)=true:=(by rw[C9];omega);have hnp:0<n1:=(by omega);obtain⟨g,off,rfl,hc1,hc2,hc⟩:=ag_head HA1.out (by omega);unfold maxLen at hc2;have hc0:=hc 0 (by omega);rw[C5]at hc0;have hh:body.getD 0 0=body.headD 0:=(by cases body<;>rfl);have hz:=(HA1.out.b (body.getD 0 0) (by rw[List.getD,Ac (by omega)];exact Bo _)).2;have hge:¬body.getD 0 0<128:=λh=>hbare (by unfold bare;rw[<-hh,AT h,AT (show body.length=1 by omega)];rfl);generalize body.getD 0 0=z at*;clear hc hbare hh hl1 hn1;go_wp2_with fail;refine(FF 128 n1 (by decide) (by omega) _).mono ?_;rintro e w2⟨rfl,hrow,hb2⟩;obtain⟨o2,h4,h256⟩:=HF.out 128 rfl (by decide) w2 hb2 hrow;have HO2:=Xba o2;have H256:=Xba h256;have HA2:=Xba (HA1.out.at hb2);have HB2:=Xba (below_go HB1.out hb2);have hz:=HB1.out.size;have hz2:=hb2.size;obtain⟨K,hK⟩:∃K,(hd 128 n1).length=K:=⟨_,rfl⟩;rw[hK]at HO2 h4⊢;have HKK:=Xba hK;clear o2 h256 hrow hb2 hK;go_wp2_with (first|(at_builtin;refine DB rfl (.tmp 29) (.tmp 30) rfl w1.heap.size _ (hd 128 n1) rfl HO2.out _ n1 c1 body rfl HA2.out.i HA2.out.nil HA2.out.l (by rw[HKK.out];omega) hz2 ?_;intro v3 w3 o3 hb3;obtain⟨a3,c3,rfl,hag3⟩:=OwnB.ag o3 H256.out;have HA3:=Xba hag3;have HB3:=Xba (HB2.out.trans (hb3.mono hz));clear o3 hag3 hb3;generalize hgl:(hd 128 n1++body).length=len3 at HA3⊢;clear hgl));go_ret;exact⟨⟨_,_,_,rfl,by rw[HRE.out];exact HA3.out,by first|exact(λh=>by cases h)|simp⟩,HB3.out⟩
  ·have hnb:((n1:Int)==1)=false:=(by rw[BB];omega);clear hbare hl1;go_wp2_with fail;refine(FF 128 n1 (by decide) (by omega) _).mono ?_;rintro e w2⟨rfl,hrow,hb2⟩;obtain⟨o2,h4,h256⟩:=HF.out 128 rfl (by decide) w2 hb2 hrow;have HO2:=Xba o2;have H256:=Xba h256;have HA2:=Xba (HA1.out.at hb2);have HB2:=Xba (below_go HB1.out hb2);have hz:=HB1.out.size;have hz2:=hb2.size;obtain⟨K,hK⟩:∃K,(hd 128 n1).length=K:=⟨_,rfl⟩;rw[hK]at HO2 h4⊢;have HKK:=Xba hK;clear o2 h256 hrow hb2 hK;go_wp2_with (first|(at_builtin;refine DB rfl (.tmp 29) (.tmp 30) rfl w1.heap.size _ (hd 128 n1) rfl HO2.out _ n1 c1 body rfl HA2.out.i HA2.out.nil HA2.out.l (by rw[HKK.out];omega) hz2 ?_;intro v3 w3 o3 hb3;obtain⟨a3,c3,rfl,hag3⟩:=OwnB.ag o3 H256.out;have HA3:=Xba hag3;have HB3:=Xba (HB2.out.trans (hb3.mono hz));clear o3 hag3 hb3;generalize hgl:(hd 128 n1++body).length=len3 at HA3⊢;clear hgl));go_ret;exact⟨⟨_,_,_,rfl,by rw[HRE.out];exact HA3.out,by first|exact(λh=>by cases h)|simp⟩,HB3.out⟩
theorem Ru:∀t,BytesSaid t:=T.ind Qb
mutual
def rsz:T->Nat
 | .mk l bs its=>if bare l bs then 1 else if 16777215<(if l then 0 else bs.length)+rszs its then(if l then 0 else bs.length)+rszs its else szOf true [] ((if l then 0 else bs.length)+rszs its)
def rszs:List T->Nat
 |[]=>0
 |t::r=>rsz t+rszs r
end
theorem WT(l:Bool)(bs:List Int)(its:List T):rsz (.mk l bs its)=if bare l bs then 1 else if 16777215<(if l then 0 else bs.length)+rszs its then(if l then 0 else bs.length)+rszs its else szOf true [] ((if l then 0 else bs.length)+rszs its):=by rw[rsz]
theorem FU:rszs []=0:=by rw[rszs]
theorem Iz(t:T)(r:List T):rszs (t::r)=rsz t+rszs r:=by rw[rszs]
theorem Hu:∀a b:List T,rszs (a++b)=rszs a+rszs b
 |[],b=>by rw[FU];simp
 |t::r,b=>by rw[Cb,Iz,Iz,Hu r b];omega
theorem NB{its:List T}{k:Nat}{t:T}(h:its[k]?=some t):rszs (its.take (k+1))=rszs (its.take k)+rsz t:=by
 rw[DK h,Hu,Iz,FU];rfl
def Like(a b:Nat):Prop:=a=b∨(16777215<a/\16777215<b/\a<=b)
theorem I0:∀{its:List T},(∀t∈its,Like (rsz t) (sz t))->Like (rszs its) (szs its)
 |[],_=>by rw[FU,Fw];exact .inl rfl
 |t::r,h=>by
  rw[Iz,Gn];have h1:=h t (BU ..);have h2:=I0 λu hu=>h u (A9 _ hu);unfold Like at*;omega
theorem NC(n:Nat):szOf true [] n=1+n+(if 55<n then nb n else 0):=by unfold szOf bare;simp
theorem Qc:∀t,form t=true->Like (rsz t) (sz t):=by
 refine T.ind λl bs its ih h=>?_;rw[WT,Sj];cases l with
 |false=>
  have hi:=Ed h;subst hi;rw[FU,Fw];simp only[BT,DQ,C5];by_cases hb:bare false bs=true
  ·rw[Af hb];unfold szOf;rw[Af hb];unfold bare at hb;simp only[BJ,CQ]at hb;exact .inl hb.2.1.symm
  ·rw[Ad hb];have e:szOf false bs bs.length=szOf true [] bs.length:=(by rw[NC];unfold szOf;rw[Ad hb]);rw[e];by_cases hm:16777215<bs.length
   ·rw[Af hm];have:=KT true [] bs.length;exact .inr ⟨hm,by omega,this⟩
   ·rw[Ad hm];exact .inl rfl
 |true=>
  obtain⟨hb,hf⟩:=EK h;subst hb;have hk:=I0 λt ht=>ih t ht (Dj hf t ht);rw[Ad (by simp[bare]),Af rfl,AD,show([]:List Int).length+szs its=szs its from by simp];have hg:=KT true [] (szs its);unfold Like at*;rcases hk with hk|⟨h1,h2,h3⟩
  ·rw[hk];by_cases hm:16777215<szs its
   ·rw[Af hm];exact .inr ⟨hm,by omega,hg⟩
   ·rw[Ad hm];exact .inl rfl
  ·rw[Af h1];exact .inr ⟨h1,by omega,by omega⟩
theorem YM{its:List T}(h:forms its=true):rszs its<=szs its:=by
 have:=I0 λt ht=>Qc t (Dj h t ht);unfold Like at this;omega
theorem NF{its:List T}(k:Nat):rszs (its.take k)<=rszs its:=by
 have e:=Hu (its.take k) (its.drop k);rw[Bf]at e;omega
theorem OL:szOf true [] n=n+(hd 0 n).length:=by
 rw[NC,hd_len];split<;>omega
def SizeSaid(t:T):Prop:=∀(x:V)(w:World),Lies w t x->form t=true->rsz t<=1000000000000->
 Calls prog 134 #[.agg #[.bool x.l, .slice x.ba x.bn x.bc, .slice x.ia x.m x.ic]] w λe w'=>e= .returned (.int .i64 (rsz t:Nat))/\Below w.heap.size w w'
theorem U6(l:Bool)(bs:List Int)(its:List T)(ih:∀t∈its,SizeSaid t):SizeSaid (.mk l bs its):=by
 intro x w hx hf hbig;obtain⟨xl,xag,xm,xic,xic2,⟨xbn,xm2⟩,xall⟩:=lies_eq.1 hx;have HBN:=Xba (below_new w (.cells #[.bool x.l, .slice x.ba x.bn x.bc, .slice x.ia x.m x.ic] 110));have HBX:=Xba (E5 w x);have HX:=Xba (Ci HBN.out _ x hx);have HAG:=Xba (xag.at HBN.out);have HXM:=Xba xm;have HIH:=Xba ih;have hbl:=xag.l;have hre:=WT l bs its;obtain⟨R0,hR0⟩:∃R0,rsz (.mk l bs its)=R0:=⟨_,rfl⟩;rw[hR0];rw[hR0]at hre hbig;obtain⟨xl',xba,xbn',xbc,xia,xm',xic'⟩:=x;simp only at xl xbn xm2 HBX HBN HX HAG HXM hbl xm;subst xl;obtain⟨W,hW⟩:∃W,w.alloc (.cells #[.bool xl', .slice xba xbn' xbc, .slice xia xm' xic'] 110)=W:=⟨_,rfl⟩;have HWW:=Xba hW;rw[hW]at HBN HBX HX HAG;clear hx xag xall ih xic xic2 hW hR0;cases xl' with
 |false=>
  have hi:=Ed hf;subst hi;have hm0:xm'=0:=xm;subst hm0;simp only[BT,DQ,FU,C5]at hre;by_cases hbare:bare false bs=true
  ·rw[Af hbare]at hre;subst hre;unfold bare at hbare;simp only[BJ,CQ]at hbare;obtain⟨_,b2,b3⟩:=hbare;have hn1:xbn'=1:=(by omega);subst hn1;obtain⟨g,off,rfl,hc1,hc2,hc⟩:=ag_head HAG.out (by omega);unfold maxLen at hc2;have hc0:=hc 0 (by omega);rw[C5,<-HWW.out]at hc0;have hh:bs.getD 0 0=bs.headD 0:=(by cases bs<;>rfl);have hz:=(HAG.out.b (bs.getD 0 0) (by rw[List.getD,Ac (by omega)];exact Bo _)).1;rw[<-hh]at b3;generalize bs.getD 0 0=z at*;clear hc hh b2 hbl hf xm;go_enter func134,ntmps134;go_wp2_with fail;go_ret;exact⟨rfl,by rw[HWW.out];exact HBN.out⟩
  rw[Ad hbare,hbl]at hre;have HR0:=Xba hre.symm;clear hre;by_cases hn1:xbn'=1
  ·have hnb:((xbn':Int)==1)=true:=(by rw[C9];omega);have hnp:0<xbn':=(by omega);obtain⟨g,off,rfl,hc1,hc2,hc⟩:=ag_head HAG.out (by omega);unfold maxLen at hc2;have hc0:=hc 0 (by omega);rw[C5,<-HWW.out]at hc0;have hh:bs.getD 0 0=bs.headD 0:=(by cases bs<;>rfl);have hz:=(HAG.out.b (bs.getD 0 0) (by rw[List.getD,Ac (by omega)];exact Bo _)).2;have hge:¬bs.getD 0 0<128:=λh=>hbare (by unfold bare;rw[<-hh,AT h,AT (show bs.length=1 by omega)];rfl);generalize bs.getD 0 0=z at*;clear hc hh hbl hf xm hbare hn1;go_enter func134,ntmps134;go_wp2_with fail;rw[HWW.out]
   go_loopw [3,4] (λp q v=>p= .int .i64 xbn'/\q= .int .i64 0/\Below W.heap.size W v) (λ_ _ _=>0)
   case atStart=>exact⟨rfl,rfl,Ak _ _⟩
   case round=>
    obtain⟨rfl,rfl,hbv⟩:=hrel;obtain⟨d0,d1,d2⟩:=HBX.out.go hbv;simp only at d0 d1 d2;have HBV:=Xba hbv;clear hbv;by_cases hmax:16777215<xbn'
    ·have hmi:(xbn':Int)>16777215:=(by omega);have e:R0=xbn':=(by rw[<-HR0.out,Af hmax]);subst e;go_wp2_with fail;go_ret;exact⟨rfl,below_go HBN.out HBV.out⟩
    ·have hmi:¬(xbn':Int)>16777215:=(by omega);have e:R0=xbn'+(hd 0 xbn').length:=(by rw[<-HR0.out,Ad hmax,OL]);have h4:=OK (base:=0) (n:=xbn') (by omega);have hcal:=FF 0 xbn' (by omega) (by omega) wr;rw[show((0:Nat):Int)=0 from rfl]at hcal;obtain⟨K,hK⟩:∃K,(hd 0 xbn').length=K:=⟨_,rfl⟩;rw[hK]at hcal e h4;subst e;have HC:=Xba hcal;clear hcal hK;go_wp2_with fail;refine HC.out.mono ?_;rintro e w2⟨rfl,_,hb2⟩;have HB2:=Xba (below_go HBV.out hb2);clear hb2;go_wp2_with fail;go_ret;exact⟨by simp,below_go HBN.out HB2.out⟩
  ·have hnb:((xbn':Int)==1)=false:=(by rw[BB];omega);clear hbl hf xm hbare;go_enter func134,ntmps134;go_wp2_with fail;rw[HWW.out]
   go_loopw [3,4] (λp q v=>p= .int .i64 xbn'/\q= .int .i64 0/\Below W.heap.size W v) (λ_ _ _=>0)
   case atStart=>exact⟨rfl,rfl,Ak _ _⟩
   case round=>
    obtain⟨rfl,rfl,hbv⟩:=hrel;obtain⟨d0,d1,d2⟩:=HBX.out.go hbv;simp only at d0 d1 d2;have HBV:=Xba hbv;clear hbv;by_cases hmax:16777215<xbn'
    ·have hmi:(xbn':Int)>16777215:=(by omega);have e:R0=xbn':=(by rw[<-HR0.out,Af hmax]);subst e;go_wp2_with fail;go_ret;exact⟨rfl,below_go HBN.out HBV.out⟩
    ·have hmi:¬(xbn':Int)>16777215:=(by omega);have e:R0=xbn'+(hd 0 xbn').length:=(by rw[<-HR0.out,Ad hmax,OL]);have h4:=OK (base:=0) (n:=xbn') (by omega);have hcal:=FF 0 xbn' (by omega) (by omega) wr;rw[show((0:Nat):Int)=0 from rfl]at hcal;obtain⟨K,hK⟩:∃K,(hd 0 xbn').length=K:=⟨_,rfl⟩;rw[hK]at hcal e h4;subst e;have HC:=Xba hcal;clear hcal hK;go_wp2_with fail;refine HC.out.mono ?_;rintro e w2⟨rfl,_,hb2⟩;have HB2:=Xba (below_go HBV.out hb2);clear hb2;go_wp2_with fail;go_ret;exact⟨by simp,below_go HBN.out HB2.out⟩
 |true=>
  obtain⟨hb,hfs⟩:=EK hf;subst hb;simp only[if_true,AD]at hre;rw[Ad (by simp[bare])]at hre;have HR0:=Xba hre.symm;have HFS:=Xba hfs;have hrb:rszs its<=1000000000000:=by
   rw[hre]at hbig;split at hbig
   ·exact hbig
   ·have:=KT true [] (rszs its);omega
  clear hre hf hfs hbl xm;go_enter func134,ntmps134;go_wp2_with fail;rw[HWW.out]
  go_loopw [3,4] (λp q v=>∃u:Nat,u<=xm'/\q= .int .i64 u/\p= .int .i64 (rszs (its.take u):Nat)/\Below W.heap.size W v) (λ_ q _=>xm'-(intOf q).toNat)
  case atStart=>exact⟨0,by omega,rfl,by rw[BD,FU];rfl,Ak _ _⟩
  case round=>
   obtain⟨u,hu,rfl,rfl,hbv⟩:=hrel;obtain⟨d0,d1,d2⟩:=HBX.out.go hbv;simp only at d0 d1 d2;have HBV:=Xba hbv;clear hbv;by_cases hlt:u<xm'
   ·have hui:(u:Int)<xm':=(by omega);obtain⟨t,ht⟩:∃t,its[u]?=some t:=⟨its[u]'(by have:=HXM.out;omega),Ac _⟩;obtain⟨g,off,y,A⟩:=DX (lies_eq.1 HX.out).2.2.2.2.2.2 u t ht;rw[AD]at A;have ha:xia=some ⟨g,off,none⟩:=A.ha;subst ha;have y0:=AN HBV.out A.c0;have y1:=AN HBV.out A.c1;have y2:=AN HBV.out A.c2;have hmem:=AK ht;have hmore:=NB ht;have hle:=NF (its:=its) (u+1);have hcal:=HIH.out t hmem y wr (Ci HBV.out t y A.li) (Dj HFS.out t hmem) (by omega);obtain⟨r1,hr1⟩:∃r1,rszs (its.take u)=r1:=⟨_,rfl⟩;obtain⟨r2,hr2⟩:∃r2,rsz t=r2:=⟨_,rfl⟩;rw[hr1,hr2]at hmore;rw[hr1];rw[hr2]at hcal;have HC:=Xba hcal;have HMO:=Xba hmore;have hb1:r1+r2<=1000000000000:=(by omega);clear hcal ht A hmem hmore hle hr1 hr2;go_wp2_with fail;refine HC.out.mono ?_;rintro e w1⟨rfl,hb2⟩;have HB2:=Xba (below_go HBV.out hb2);clear hb2;go_wp2_with fail;exact⟨⟨u+1,by omega,by simp,by rw[HMO.out];simp,HB2.out⟩,by simp[intOf];omega⟩
   ·have hui:¬(u:Int)<xm':=(by omega);have htk:its.take u=its:=A5 (by rw[<-HXM.out];omega);rw[htk];obtain⟨S0,hS0⟩:∃S0,rszs its=S0:=⟨_,rfl⟩;rw[hS0]at HR0 hrb⊢;clear htk hS0;by_cases hmax:16777215<S0
    ·have hmi:(S0:Int)>16777215:=(by omega);have e:R0=S0:=(by rw[<-HR0.out,Af hmax]);subst e;go_wp2_with fail;go_ret;exact⟨rfl,below_go HBN.out HBV.out⟩
    ·have hmi:¬(S0:Int)>16777215:=(by omega);have e:R0=S0+(hd 0 S0).length:=(by rw[<-HR0.out,Ad hmax,OL]);have h4:=OK (base:=0) (n:=S0) (by omega);have hcal:=FF 0 S0 (by omega) (by omega) wr;rw[show((0:Nat):Int)=0 from rfl]at hcal;obtain⟨K,hK⟩:∃K,(hd 0 S0).length=K:=⟨_,rfl⟩;rw[hK]at hcal e h4;subst e;have HC:=Xba hcal;clear hcal hK;go_wp2_with fail;refine HC.out.mono ?_;rintro e w2⟨rfl,_,hb2⟩;have HB2:=Xba (below_go HBV.out hb2);clear hb2;go_wp2_with fail;go_ret;exact⟨by simp,below_go HBN.out HB2.out⟩
theorem WU:∀t,SizeSaid t:=T.ind U6
theorem WV{l:Bool}{bs:List Int}{its:List T}(h:(wk (.mk l bs its) 0 0).2=0):bs.length<=16777215/\szs its<=167772150/\rszs its<=szs its/\Like (rszs its) (szs its):=by
 have hf:=Ja _ 0 0 h;obtain⟨h1,h2,h3,h4⟩:=Pd h;have hw:=EL h2;have hb:bs.length<=16777215:=by
  cases l with
  |true=>have e:bs=[]:=(by simpa using hw);rw[e];simp
  |false=>unfold wt at h3;simp at h3;omega
 have hfs:forms its=true:=by
  cases l with
  |true=>exact(EK hf).2
  |false=>rw[Ed hf,Ey]
 have hk:=I0 λt ht=>Qc t (Dj hfs t ht);rw[h4]at h;obtain⟨W,hW⟩:∃W,wks its 1 (0+wt l bs 0)=(W,0):=⟨(wks its 1 (0+wt l bs 0)).1,Prod.ext rfl h⟩;have hbd:=JO (by omega) h3 hW;exact⟨hb,by omega,YM hfs,hk⟩
theorem KI(t:T)(x:V)(w:World)(hx:Lies w t x):
 Calls prog 107 #[.agg #[.bool x.l, .slice x.ba x.bn x.bc, .slice x.ia x.m x.ic]] w λe w'=>(∃a n c,e= .returned (.tuple #[.slice a n c, .int .i64 ((encP t).2:Nat)])/\Ag w' a n c (encP t).1/\(x.l=true->Nw w.heap.size a))/\Below w.heap.size w w':=by
 obtain⟨l,bs,its⟩:=t;have HBN:=Xba (below_new w (.cells #[.bool x.l, .slice x.ba x.bn x.bc, .slice x.ia x.m x.ic] 110));have HBX:=Xba (E5 w x);have HX:=Xba (Ci HBN.out _ x hx);have xm:=(lies_eq.1 hx).2.2.1;have xm2:=(lies_eq.1 hx).2.2.2.2.2.1.2;have hbl:=(lies_eq.1 hx).2.1.l;have HXM:=Xba xm;have hcal:=WR (.mk l bs its) x _ 0 0 HX.out (by omega) (by omega);rw[show((0:Nat):Int)=0 from rfl]at hcal;obtain⟨⟨ww,er⟩,hwk⟩:∃r,wk (.mk l bs its) 0 0=r:=⟨_,rfl⟩;rw[hwk]at hcal;simp only at hcal;by_cases her:er=0
 case neg=>
  have hm:mP (.mk l bs its)=(0,er):=by unfold mP;rw[hwk,Af (by simpa using her)]
  have he:encP (.mk l bs its)=([],er):=by unfold encP;rw[hm,Ad (by simpa using her)]
  rw[he];have hee:((er:Int) !=0)=true:=by rw[BL];omega
  have HC:=Xba hcal;clear hcal hm he hx hwk xm hbl xm2;go_enter func107,ntmps107;go_wp2_with fail;refine HC.out.mono ?_;rintro e w1⟨rfl,hb1⟩;have HB1:=Xba (below_go HBN.out hb1);clear hb1 HC;go_wp2_with fail;go_ret2;exact⟨⟨none,0,0,rfl,ag_nil _,λ_ g off h=>by cases h⟩,HB1.out⟩
 subst her;rw[show((0:Nat):Int)=0 from rfl]at hcal;have h0:(wk (.mk l bs its) 0 0).2=0:=by rw[hwk]
 obtain⟨s1,s2,s3,s4⟩:=WV h0;have hfs:forms its=true:=by
  have hf:=Ja _ 0 0 h0;cases l with
  |true=>exact(EK hf).2
  |false=>rw[Ed hf,Ey]
 have hmP:mP (.mk l bs its)=if 16777215<bs.length+szs its then(0,20)else(sz (.mk l bs its),0):=by unfold mP;rw[Ad (by rw[h0];simp)];rfl
 have hN:(16777215<bs.length+szs its)↔(16777215<bs.length+rszs its):=by unfold Like at s4;omega
 have hbody:(bodyOf (.mk l bs its)).length=bs.length+szs its:=by rw[<-IZ (Ja _ 0 0 h0)];rfl
 obtain⟨E,hE⟩:∃E,encP (.mk l bs its)=E:=⟨_,rfl⟩;rw[hE];have HEE:Hid (encP (.mk l bs its)=E):=Xba hE;have HMP:=Xba hmP;have HN:=Xba hN;have HBO:=Xba hbody;have HFS:=Xba hfs;have HC:=Xba hcal;obtain⟨xl,xba,xbn,xbc,xia,xm',xic⟩:=x;simp only at xm2 hbl HBX HBN HX HXM HC;have HBL:=Xba hbl;obtain⟨LB,hLB⟩:∃LB,bs.length=LB:=⟨_,rfl⟩;have hLx:LB=xbn:=by omega
 subst hLx;clear hcal hE hmP hN hbody hfs hx hwk h0 xm s4 hbl;have HLB:=Xba hLB;rw[hLB]at s1 HMP HN HBO;clear hLB;go_enter func107,ntmps107;go_wp2_with fail;refine HC.out.mono ?_;rintro e w1⟨rfl,hb1⟩;obtain⟨c0,c1,c2⟩:=HBX.out.go hb1;simp only at c0 c1 c2;have HB1:=Xba (below_go HBN.out hb1);have HX1:=Xba (Ci hb1 _ _ HX.out);have HBX1:=Xba (HBX.out.go hb1);clear hb1 HC HBX HX;go_wp2_with fail
 go_loopw [6,7] (λp q v=>∃u:Nat,u<=xm'/\q= .int .i64 u/\p= .int .i64 (LB+rszs (its.take u):Nat)/\Below w1.heap.size w1 v) (λ_ q _=>xm'-(intOf q).toNat)
 case atStart=>exact⟨0,by omega,rfl,by rw[BD,FU];rfl,Ak _ _⟩
 case round=>
  clear c0 c1 c2;obtain⟨u,hu,rfl,rfl,hbv⟩:=hrel;obtain⟨d0,d1,d2⟩:=HBX1.out.go hbv;simp only at d0 d1 d2;have HBV:=Xba hbv;clear hbv;by_cases hlt:u<xm'
  ·have hui:(u:Int)<xm':=(by omega);obtain⟨t,ht⟩:∃t,its[u]?=some t:=⟨its[u]'(by have:=HXM.out;omega),Ac _⟩;obtain⟨g,off,y,A⟩:=DX (lies_eq.1 HX1.out).2.2.2.2.2.2 u t ht;rw[AD]at A;have ha:xia=some ⟨g,off,none⟩:=A.ha;subst ha;have y0:=AN HBV.out A.c0;have y1:=AN HBV.out A.c1;have y2:=AN HBV.out A.c2;have hmem:=AK ht;have hmore:=NB ht;have hle:=NF (its:=its) (u+1);have hcal:=WU t y wr (Ci HBV.out t y A.li) (Dj HFS.out t hmem) (by omega);obtain⟨r1,hr1⟩:∃r1,LB+rszs (its.take u)=r1:=⟨_,rfl⟩;obtain⟨r2,hr2⟩:∃r2,rsz t=r2:=⟨_,rfl⟩;have hmo:LB+rszs (its.take (u+1))=r1+r2:=(by omega);rw[hr1];rw[hr2]at hcal;have HC:=Xba hcal;have HMO:=Xba hmo;have hb1:r1+r2<=1000000000000:=(by omega);clear hcal ht A hmem hmore hle hr1 hr2 hmo;go_wp2_with fail;refine HC.out.mono ?_;rintro e w2⟨rfl,hb2⟩;have HB2:=Xba (below_go HBV.out hb2);clear hb2;go_wp2_with fail;exact⟨⟨u+1,by omega,by simp,by rw[HMO.out];simp,HB2.out⟩,by simp[intOf];omega⟩
  ·have hui:¬(u:Int)<xm':=(by omega);have htk:its.take u=its:=A5 (by rw[<-HXM.out];omega);rw[htk];have hn:=HN.out;have hmp:=HMP.out;have hbo:=HBO.out;obtain⟨S0,hS0⟩:∃S0,LB+rszs its=S0:=⟨_,rfl⟩;rw[hS0]at hn⊢;clear htk;by_cases hmax:16777215<S0
   ·have hmi:(S0:Int)>16777215:=(by omega);rw[Af (hn.2 hmax)]at hmp;have he:E=([],20):=(by rw[<-HEE.out];unfold encP;rw[hmp,Ad (by decide)]);subst he;clear hn hmp hbo hS0;go_wp2_with fail;go_ret2;exact⟨⟨none,0,0,rfl,ag_nil _,λ_ g off h=>by cases h⟩,below_go HB1.out HBV.out⟩
   ·have hmi:¬(S0:Int)>16777215:=(by omega);have hng:¬16777215<LB+szs its:=λh=>hmax (hn.1 h);rw[Ad hng]at hmp;have he:E=(enc (.mk l bs its),0):=(by rw[<-HEE.out];unfold encP;rw[hmp,Af rfl]);subst he;have hcal:=Ru (.mk l bs its) _ wr (Ci HBV.out _ _ HX1.out) (by omega);have HC:=Xba hcal;clear hn hmp hbo hS0 hcal;go_wp2_with fail;refine HC.out.mono ?_;rintro e w2⟨⟨a2,n2,c2,rfl,hag2,hnw⟩,hb2⟩;have HNW:=Xba (λh=>(hnw h).mono (Al HB1.out.size HBV.out.size));have HA2:=Xba hag2;have HB2:=Xba (below_go HBV.out hb2);clear hag2 hb2 hnw;go_wp2_with fail;go_ret2;exact⟨⟨a2,n2,c2,rfl,HA2.out,HNW.out⟩,below_go HB1.out HB2.out⟩
section
variable {a : Act} {w : World}
theorem JC{x:Operand}{p:Addr}{v:Value}{o:Oper}(ho:o.op= .load 90 x)(hx:a.eval x= .pointer (some p))(hc:w.cell? p=some v):(execOp a.eval o).run prog w= .ok (.value v) w:=by
 unfold execOp;rw[ho];simp only[hx];go_simp
theorem U7{x y:Operand}{g off j m c:Nat}{o:Oper}(ho:o.op= .indexAddr 90 x y)(hx:a.eval x= .slice (some ⟨g,off,none⟩) m c)(hy:a.eval y= .int .i64 j)(hj:j<m):(execOp a.eval o).run prog w= .ok (.value (.pointer (some ⟨g,off+j*34,none⟩))) w:=by
 have hji:(j:Int)<m:=by omega
 unfold execOp;rw[ho];simp only[hx,hy];go_simp
end
section
variable {a : Act} {w : World}
theorem FG{x:Operand}{o:Oper}(ho:o.op= .buildSlice 108 1 #[(0,x)])(p:V)(hx:a.eval x= .agg #[.bool p.l, .slice p.ba p.bn p.bc, .slice p.ia p.m p.ic]):
 (execOp a.eval o).run prog w= .ok (.value (.slice (some ⟨w.heap.size,0,none⟩) 1 1)) (w.alloc (.cells #[.bool p.l, .slice p.ba p.bn p.bc, .slice p.ia p.m p.ic] 110)):=by
 unfold execOp;rw[ho];simp only[Ck,B9,C6,hx];go_simp
theorem I5{w':World}{s x:Operand}{o:Oper}(ho:o.op= .call {callee:= .builtin .append,args:=#[s,x],argTypes:=#[108,108]})(v u:Value)(hd:a.eval s=v)(hx:a.eval x=u){v':Value}
 (hr:(Builtin.append_ #[108,108] o.type #[v,u]).run prog w= .ok v' w'):(execOp a.eval o).run prog w= .ok (.value v') w':=by
 simp[execOp,ho,resolve,invoke,builtin,hd,hx,hr,Result.andThen]
theorem FH{x y:Operand}{o:Oper}(ho:o.op= .store 108 x y)(g:Nat)(it old:Value)(h1:∃ia m ic,it= .slice ia m ic)(hx:a.eval x= .pointer (some ⟨g,2,none⟩))(hy:a.eval y=it)(hc:w.cell? ⟨g,2,none⟩=some old)(hf:∀o,w.frozen? ⟨g,o,none⟩=false):
 (execOp a.eval o).run prog w= .ok .skip (w.setCell ⟨g,2,none⟩ it):=by
 obtain⟨ia,m,ic,rfl⟩:=h1;unfold execOp;rw[ho];simp only[hx,hy];go_simp
end
theorem So.one{v:World}{it:Value}{ts:List T}(h:So gI v it ts):∃ia m ic,it= .slice ia m ic:=by
 obtain⟨ia,ic,e,_⟩:=h.full (w:=v);exact⟨ia,_,ic,e⟩
def EEPost(w:World)(n:PN):Ending->World->Prop:=λe w'=>(∃a m c,e= .returned (.tuple #[.slice a m c, .int .i64 (if NR n=true then 0 else 50)])/\Ag w' a m c (if NR n=true then NE n else[])/\Nw w.heap.size a)/\Below w.heap.size w w'
theorem Hv{u:World}{it:Value}{TS:List T}{n:PN}(hF:Full gI w u it TS)(hlen:TS.length<=1000)(ht: .mk true [] TS=itemP n)(hb:(mP (itemP n)).2=0):
 ∃ia m ic,it= .slice ia m ic/\Calls prog 107 #[.agg #[.bool true, .slice none 0 0, .slice ia m ic]] u λe w'=>(∃a m c,e= .returned (.tuple #[.slice a m c, .int .i64 0])/\Ag w' a m c (NE n)/\Nw u.heap.size a)/\Below u.heap.size u w':=by
 obtain⟨ia,ic,rfl,f1,f2,f3⟩:=hF;refine⟨ia,_,ic,rfl,(KI (.mk true [] TS) ⟨true,none,0,0,ia,TS.length,ic⟩ u (lies_eq.2 ⟨rfl,⟨.inl ⟨rfl,rfl⟩,λ_=>⟨rfl,rfl⟩,rfl,λx hx=>by cases hx⟩,rfl,f1,f2,⟨Ay _,by show TS.length<=_;omega⟩,f3⟩)).mono ?_⟩;rw[ht,Gt hb];rintro e w'⟨⟨a,m,c,e1,e2,e4⟩,e3⟩;exact⟨⟨a,m,c,e1,e2,e4 rfl⟩,e3⟩
theorem En.drew{v:World}{x:NV}{it:Value}(h:En w v x gI it):En w v.drew x gI it:=h.all (Ak _ _).drew
theorem YN{n:PN}(h:NR n=true)(h3:n.k=3):n.ks.length=16:=by
 unfold NR nright rkidsP at h;by_cases h16:n.ks.length=16
 ·exact h16
 ·simp[h3,h16]at h
theorem WW(K:Nat->Prop)(x:NV)(n:PN)(w:World)(h:NodeAt K w x n)(h3:n.k=3)(hd:∀r,(r=n.c∨r∈n.ks)->r.i.length<32->DDSaid r.i):
 Calls prog 73 #[.agg x.cells.toArray] w (EEPost w n):=by
 have B:=E8 w x h.c.len;have HB:=Xba (below_new w (.cells x.cells.toArray 92));have HH:=Xba h;obtain⟨q,hq⟩:∃q,NR n=q:=⟨_,rfl⟩
 have HR1:=Xba (show∀v,Below w.heap.size w v->Calls prog 104 #[.agg x.cells.toArray] v λe w'=>e= .returned (.bool q)/\Below v.heap.size v w' from λv hv=>by
  rw[<-hq];exact Hh K x n v (h.go (Keep.below hv)) hd)
 have HQ:=Xba hq;have hk3:x.k=3:=by rw[h.k];exact h3
 have hvn:=h.v.2.1;unfold EEPost;rw[hq];have H3:=Xba h3;clear h hq hd h3;go_enter func73,ntmps73;go_upto_region 1 with fail;refine gen_w (p:=λv=>Code.wp _ _ _ _ v) (q:=λv=>NBx w.heap.size v x/\Below w.heap.size w v) ⟨B,HB.out⟩ ?_;clear B HB;rintro v⟨B,hb⟩;have HB:=Xba hb;have HX:=Xba B;clear hb B;go_wp2_with (first|refine CG rfl _ rfl w.heap.size rfl x HX.out ?_);refine(HR1.out v HB.out).mono ?_;rintro e w1⟨rfl,hb1⟩;have HX1:=Xba (HX.out.go hb1);have HB1:=Xba (below_go HB.out hb1);clear hb1 HX HB;cases q with
 |false=>
  go_wp2_with fail;go_ret2;exact⟨⟨none,0,0,rfl,⟨.inl ⟨rfl,rfl⟩,λ_=>⟨rfl,rfl⟩,rfl,λx hx=>by cases hx⟩,λg off h=>by cases h⟩,HB1.out⟩
 |true=>
  obtain⟨b1,b2,b3⟩:=EZ HH.out.okN HQ.out;have HM:=Xba b1;have hks:=YN HQ.out H3.out;have HKS:=Xba hks;have H16:=Xba (show x.kn=16 from by rw[HH.out.m.1];exact hks);have HLT:=Xba (show w.heap.size<w1.heap.size from(BF.1 HX1.out.row).1);clear b1 b2 b3 hks;go_upto_region 5 with fail;obtain⟨gI,hgI⟩:∃gI,w1.heap.size=gI:=⟨_,rfl⟩;refine gen_w (p:=λv=>Code.wp _ _ _ _ v) (q:=λv=>En w v x gI (.slice none 0 0)) ⟨by rw[<-hgI];exact Ai _ _,HX1.out.go (below_new _ _),below_go HB1.out (below_new _ _),by rw[<-hgI];exact HLT.out,by simp[hgI]⟩ ?_;intro v2 E2;rw[hgI];have c0:=E2.bx.c0;rw[hk3]at c0;have HE2:=Xba E2;clear E2 HX1 HB1 HLT hgI;go_wp2_with fail
  go_loopw [6] (λs6 u=>∃(j:Nat)(it:Value),j<=16/\s6= .int .i64 j/\En w u x gI it/\So gI u it ((n.ks.take j).map refItemP)) (λs6 _=>16-(intOf s6).toNat)
  case atStart=>exact⟨0,_,by omega,rfl,HE2.out,Xaf _ _⟩
  case round=>
   obtain⟨j,it,hj,rfl,hE,hSO⟩:=hrel;have HE:=Xba hE;have HSO:=Xba hSO;clear hE hSO HE2 c0;by_cases hlt:j<16
   ·have hji:(j:Int)<16:=(by omega);obtain⟨r,hr⟩:∃r,n.ks[j]?=some r:=⟨_,Ac (by rw[HKS.out];exact hlt)⟩;obtain⟨g,off,y,hka,_,hrg,hy⟩:=HH.out.ks j r hr;have HKA:=Xba hka;have HRG:=Xba hrg;have HL:=Xba hy.len;have HY:=Xba hy;have HR:=Xba hr;clear hrg hy hr hka;go_upto_region 9 with fail;rename_i KK hkk;refine BW (S:=λv'=>NBx w.heap.size v' x/\Below w.heap.size w v') (by kernel_rfl) ⟨⟨HE.out.bx.row,HE.out.bx.l⟩,HE.out.bel.drew⟩ (λhS=>?_);have hE0:=HE.out.drew;refine Bh 0 23 (.pointer (some ⟨gI,2,none⟩)) rfl rfl (by kernel_rfl) (by kernel_rfl) (by kernel_rfl) (λ_ _ _ h=>h) (by kernel_rfl) (λv _=>by kernel_rfl) hS<|Bh 2 25 (.pointer (some ⟨w.heap.size,37,none⟩)) rfl rfl (by kernel_rfl) (by kernel_rfl) (by kernel_rfl) (λ_ _ _ h=>h) (by kernel_rfl) (λv _=>by kernel_rfl) hS<|Bh 3 26 (.slice (some ⟨g,off,none⟩) 16 x.kc) rfl rfl (by kernel_rfl) (by kernel_rfl) (by kernel_rfl) (λ_ _ _ h=>h) (by kernel_rfl) (λv' hv=>JC rfl (by kernel_rfl) (by rw[<-HKA.out,<-H16.out];exact hv.1.c37)) hS<|Bh 4 27 (.int .i64 j) rfl rfl (by kernel_rfl) (by kernel_rfl) (by kernel_rfl) (λ_ _ _ h=>h) (by kernel_rfl) (λv _=>by kernel_rfl) hS<|Bh 5 28 (.pointer (some ⟨g,off+j*34,none⟩)) rfl rfl (by kernel_rfl) (by kernel_rfl) (by kernel_rfl) (λ_ _ _ h=>h) (by kernel_rfl) (λv' _=>U7 (m:=16) (c:=x.kc) rfl (by kernel_rfl) (by kernel_rfl) hlt) hS<|Bh 6 29 (.agg y.cells.toArray) rfl rfl (by kernel_rfl) (by kernel_rfl) (by kernel_rfl) (λ_ _ _ h=>h) (by kernel_rfl) (λv' hv=>Gu rfl (by kernel_rfl) HL.out (ED HRG.out (λhl=>hv.2.block g hl))) hS<|AB (rs:=[1,7]) (by kernel_rfl) (by simp) ?_;refine CK 1 24 it rfl rfl (by kernel_rfl) (CT rfl (by kernel_rfl) hE0.c2) hS ?_ ?_
    ·refine AB (rs:=[7]) (by kernel_rfl) (by simp) ?_;refine Ek 7 30 rfl rfl (by kernel_rfl) 105 #[.agg y.cells.toArray] (by kernel_rfl) (R:=λval w'=>Below wr.drew.heap.size wr.drew w'/\∃z:V,val= .agg #[.bool z.l, .slice z.ba z.bn z.bc, .slice z.ia z.m z.ic]/\LiesP (λb=>wr.drew.heap.size<=b) w' (refItemP r) z) ((Iy K y r wr.drew (HY.out.go (Keep.below hS.2))).mono (λe w' h=>DU h (Aa _))) (λval w' h=>⟨hS.1.go h.1,below_go hS.2 h.1⟩) ?_ A7;rintro val u1⟨hb1,z,rfl,hz⟩;have hS1:NBx w.heap.size u1 x/\Below w.heap.size w u1:=⟨hS.1.go hb1,below_go hS.2 hb1⟩;have hE1:=hE0.all hb1;obtain⟨v',w3,hrun,hso3,hb3⟩:=WM hE0.sz (HSO.out.all (Ak _ _).drew) hb1 hz (by rw[AY,Ao];omega) 108;have hE2:En w (u1.alloc (.cells #[.bool z.l, .slice z.ba z.bn z.bc, .slice z.ia z.m z.ic] 110)) x gI it:=hE1.all (below_new _ _);have hE3:=hE0.go hb3;have hE4:=hE3.put v';have hSO4:=hso3.put v';refine AB (rs:=[8]) (by kernel_rfl) (by simp) ?_;refine CK 8 31 (.slice (some ⟨u1.heap.size,0,none⟩) 1 1) rfl rfl (by kernel_rfl) (FG rfl z (by kernel_rfl)) ⟨hE2.bx,hE2.bel⟩ ?_ A7;refine AB (rs:=[9]) (by kernel_rfl) (by simp) ?_;refine CK 9 32 v' rfl rfl (by kernel_rfl) (I5 rfl it (.slice (some ⟨u1.heap.size,0,none⟩) 1 1) (by kernel_rfl) (by kernel_rfl) hrun) ⟨hE3.bx,hE3.bel⟩ ?_ A7;refine Bh 10 33 (.pointer (some ⟨gI,2,none⟩)) rfl rfl (by kernel_rfl) (by kernel_rfl) (by kernel_rfl) (λ_ _ _ h=>h) (by kernel_rfl) (λv _=>by kernel_rfl) ⟨hE3.bx,hE3.bel⟩<|AB (rs:=[11]) (by kernel_rfl) (by simp) ?_;refine DG 11 rfl rfl (by kernel_rfl) (FH rfl gI v' it hso3.one (by kernel_rfl) (by kernel_rfl) hE3.c2 hE3.fz) ⟨hE4.bx,hE4.bel⟩ ?_ A7;refine Cl (by kernel_rfl) ?_ _;refine hkk _ _ ?_;have HE4:=Xba hE4;have HSO4:=Xba (show So gI (w3.setCell ⟨gI,2,none⟩ v') v' ((n.ks.take (j+1)).map refItemP)from by rw[DM HR.out,BA];exact hSO4);clear hE4 hSO4 hE3 hE2 hE1 hE0 hS hS1 hso3 hb3 hrun hz hb1 hkk
     go_frame
     go_wp2_with fail;exact⟨⟨j+1,v',by omega,by simp,HE4.out,HSO4.out⟩,by simp[intOf];omega⟩
    refine Ek 7 30 rfl rfl (by kernel_rfl) 105 #[.agg y.cells.toArray] (by kernel_rfl) (R:=λval w'=>Below wr.drew.heap.size wr.drew w'/\∃z:V,val= .agg #[.bool z.l, .slice z.ba z.bn z.bc, .slice z.ia z.m z.ic]/\LiesP (λb=>wr.drew.heap.size<=b) w' (refItemP r) z) ((Iy K y r wr.drew (HY.out.go (Keep.below hS.2))).mono (λe w' h=>DU h (Aa _))) (λval w' h=>⟨hS.1.go h.1,below_go hS.2 h.1⟩) ?_ A7;rintro val u1⟨hb1,z,rfl,hz⟩;have hS1:NBx w.heap.size u1 x/\Below w.heap.size w u1:=⟨hS.1.go hb1,below_go hS.2 hb1⟩;have hE1:=hE0.all hb1;obtain⟨v',w3,hrun,hso3,hb3⟩:=WM hE0.sz (HSO.out.all (Ak _ _).drew) hb1 hz (by rw[AY,Ao];omega) 108;have hE2:En w (u1.alloc (.cells #[.bool z.l, .slice z.ba z.bn z.bc, .slice z.ia z.m z.ic] 110)) x gI it:=hE1.all (below_new _ _);have hE3:=hE0.go hb3;have hE4:=hE3.put v';have hSO4:=hso3.put v';refine AB (rs:=[1,8]) (by kernel_rfl) (by simp) ?_;refine CK 1 24 it rfl rfl (by kernel_rfl) (CT rfl (by kernel_rfl) hE1.c2) hS1 ?_ ?_
    ·refine AB (rs:=[8]) (by kernel_rfl) (by simp) ?_;refine CK 8 31 (.slice (some ⟨u1.heap.size,0,none⟩) 1 1) rfl rfl (by kernel_rfl) (FG rfl z (by kernel_rfl)) ⟨hE2.bx,hE2.bel⟩ ?_ A7;refine AB (rs:=[9]) (by kernel_rfl) (by simp) ?_;refine CK 9 32 v' rfl rfl (by kernel_rfl) (I5 rfl it (.slice (some ⟨u1.heap.size,0,none⟩) 1 1) (by kernel_rfl) (by kernel_rfl) hrun) ⟨hE3.bx,hE3.bel⟩ ?_ A7;refine Bh 10 33 (.pointer (some ⟨gI,2,none⟩)) rfl rfl (by kernel_rfl) (by kernel_rfl) (by kernel_rfl) (λ_ _ _ h=>h) (by kernel_rfl) (λv _=>by kernel_rfl) ⟨hE3.bx,hE3.bel⟩<|AB (rs:=[11]) (by kernel_rfl) (by simp) ?_;refine DG 11 rfl rfl (by kernel_rfl) (FH rfl gI v' it hso3.one (by kernel_rfl) (by kernel_rfl) hE3.c2 hE3.fz) ⟨hE4.bx,hE4.bel⟩ ?_ A7;refine Cl (by kernel_rfl) ?_ _;refine hkk _ _ ?_;have HE4:=Xba hE4;have HSO4:=Xba (show So gI (w3.setCell ⟨gI,2,none⟩ v') v' ((n.ks.take (j+1)).map refItemP)from by rw[DM HR.out,BA];exact hSO4);clear hE4 hSO4 hE3 hE2 hE1 hE0 hS hS1 hso3 hb3 hrun hz hb1 hkk
     go_frame
     go_wp2_with fail;exact⟨⟨j+1,v',by omega,by simp,HE4.out,HSO4.out⟩,by simp[intOf];omega⟩
    refine CK 8 31 (.slice (some ⟨u1.heap.size,0,none⟩) 1 1) rfl rfl (by kernel_rfl) (FG rfl z (by kernel_rfl)) ⟨hE2.bx,hE2.bel⟩ ?_ A7;refine AB (rs:=[1]) (by kernel_rfl) (by simp) ?_;refine CK 1 24 it rfl rfl (by kernel_rfl) (CT rfl (by kernel_rfl) hE2.c2) ⟨hE2.bx,hE2.bel⟩ ?_ A7;refine AB (rs:=[9]) (by kernel_rfl) (by simp) ?_;refine CK 9 32 v' rfl rfl (by kernel_rfl) (I5 rfl it (.slice (some ⟨u1.heap.size,0,none⟩) 1 1) (by kernel_rfl) (by kernel_rfl) hrun) ⟨hE3.bx,hE3.bel⟩ ?_ A7;refine Bh 10 33 (.pointer (some ⟨gI,2,none⟩)) rfl rfl (by kernel_rfl) (by kernel_rfl) (by kernel_rfl) (λ_ _ _ h=>h) (by kernel_rfl) (λv _=>by kernel_rfl) ⟨hE3.bx,hE3.bel⟩<|AB (rs:=[11]) (by kernel_rfl) (by simp) ?_;refine DG 11 rfl rfl (by kernel_rfl) (FH rfl gI v' it hso3.one (by kernel_rfl) (by kernel_rfl) hE3.c2 hE3.fz) ⟨hE4.bx,hE4.bel⟩ ?_ A7;refine Cl (by kernel_rfl) ?_ _;refine hkk _ _ ?_;have HE4:=Xba hE4;have HSO4:=Xba (show So gI (w3.setCell ⟨gI,2,none⟩ v') v' ((n.ks.take (j+1)).map refItemP)from by rw[DM HR.out,BA];exact hSO4);clear hE4 hSO4 hE3 hE2 hE1 hE0 hS hS1 hso3 hb3 hrun hz hb1 hkk
    go_frame
    go_wp2_with fail;exact⟨⟨j+1,v',by omega,by simp,HE4.out,HSO4.out⟩,by simp[intOf];omega⟩
   ·have hji:¬(j:Int)<16:=(by omega);have hso:=HSO.out;rw[A5 (by rw[HKS.out];omega)]at hso;have d2:=HE.out.c2;have e2:=HE.out.bx.c2;have ef:=HE.out.fz;obtain⟨v',w3,hrun,hb3,hfull⟩:=YI (t:= .mk false n.v []) (y:=⟨false,x.va,x.vn,x.vc,none,0,0⟩) HE.out hso (Ak _ _) (lies_eq.2 ⟨rfl,HH.out.v.1,rfl,Aa _,Ay _,⟨HH.out.v.2.1,Ay _⟩,Dw⟩) (by rw[AY,HKS.out];omega) 108;have hE3:=HE.out.go hb3;have f2:=hE3.c2;have ff:=hE3.fz;have HE4:=Xba (hE3.put v');obtain⟨ia,m,ic,hv',hen⟩:=Hv (n:=n) hfull (by rw[Ab,AY,HKS.out];simp) (by unfold itemP;rw[Af H3.out]) HM.out;subst hv';have HRUN:=Xba hrun;have HEN:=Xba hen;clear hso hrun hb3 hfull hE3 hen;go_upto_region 16 with(first|refine Er rfl _ _ rfl _ _ rfl rfl HRUN.out ?_);generalize w3.setCell ⟨gI,2,none⟩ (.slice ia m ic)=u4 at HE4 HEN⊢;have k0:=HE4.out.c0;have k1:=HE4.out.c1;have k2:=HE4.out.c2;clear d2 e2 ef f2 ff;go_wp2_with fail;refine HEN.out.mono ?_;rintro e w5⟨⟨a,m5,c5,rfl,hag,hnw⟩,hb5⟩;have HAG:=Xba hag;have HNW:=Xba (hnw.mono HE4.out.bel.size);have HB5:=Xba (below_go HE4.out.bel hb5);clear hag hb5 hnw;go_wp2_with fail;go_ret2;exact⟨⟨a,m5,c5,rfl,HAG.out,HNW.out⟩,HB5.out⟩
end Go.Proofs.YtalhnnjpjaeakaaGreat
