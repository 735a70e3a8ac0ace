/- What rightPath and rightValue answer. -/
import Derived.Test.YtefhepcplempkaaGreatAK
import Derived.Test.YtefhepcplempkaaGreatG07
import Derived.Test.YtefhepcplempkaaGreatG10
import Derived.Test.YtefhepcplempkaaGreatG12
import Derived.Test.YtefhepcplempkaaGreatG11
import Derived.Maps.AppendAt
import Derived.Deep.DeepAppendWide
set_option linter.unusedVariables false
set_option maxRecDepth 100000
set_option maxHeartbeats 8000000
open Go.Proofs.Tryz Go.RowKit
namespace Go.Proofs.YtefhepcplempkaaGreat
variable {w v' : World} {ys : List V} {ts : List T} {y : V} {x : NV}
theorem M4(K:Nat->Prop)(x:NV)(n:PN)(w:World)(h:NodeAt K w x n):
 Calls prog 110 #[.agg x.cells.toArray] w λe w'=>e= .returned (.bool (rpathP n))/\Below w.heap.size w w':=by
 have B:=ER w x h.c.len;have HB:=ZQ (below_new w (.cells x.cells.toArray 68));have hk:=h.k;have hp:=h.p;have hpb:=hp.2.1;have HL:=ZQ hp.l;have HRR:=ZQ (show∀v,Below w.heap.size w v->Calls prog 109 #[.slice x.pa x.pn x.pc] v λe w'=>e= .returned (.bool (Ni.rightP n.p))/\w'=v from λv hv=>Ni.right_any _ _ _ _ v (hp.1.at hv) (by omega));obtain⟨rp,hrp⟩:∃rp,Ni.rightP n.p=rp:=⟨_,rfl⟩;obtain⟨res,hres⟩:∃res,rpathP n=res:=⟨_,rfl⟩;rw[hres];unfold rpathP at hres;rw[HL.out,hrp,<-hk]at hres;rw[hrp]at HRR;have HRES:=ZQ hres;clear hp h hk hres hrp;go_enter func110,ntmps110;go_upto_region 1 with fail;refine gen_w (p:=λv=>Code.wp _ _ _ _ v) (q:=λv=>NBx w.heap.size v x/\Below w.heap.size w v) ⟨B,HB.out⟩ ?_;clear B HB;rintro v⟨B,hb⟩;have HB:=ZQ hb;have c0:=B.c0;have c1:=B.c1;clear hb B;by_cases h2:x.k=2
 ·by_cases h0:x.pn=0
  ·go_wp2_with fail;have hr:=HRES.out;simp[h2,h0]at hr;subst hr;go_ret
   first|exact⟨rfl,HB.out⟩|(refine⟨Au (λb=>Ending.returned (Value.bool b)) ?_,HB.out⟩;first|(simp;done)|(simp;omega))
  ·by_cases h64:x.pn<=64
   ·go_wp2_with fail;refine(HRR.out v HB.out).mono ?_;rintro e w1⟨rfl,rfl⟩;go_wp2_with fail;have hr:=HRES.out;simp[h2,h0,h64]at hr;subst hr;go_ret
    first|exact⟨rfl,HB.out⟩|(refine⟨Au (λb=>Ending.returned (Value.bool b)) ?_,HB.out⟩;first|(simp;done)|(simp;omega))
   ·go_wp2_with fail;have hr:=HRES.out;simp[h2,h0,h64]at hr;subst hr;go_ret
    first|exact⟨rfl,HB.out⟩|(refine⟨Au (λb=>Ending.returned (Value.bool b)) ?_,HB.out⟩;first|(simp;done)|(simp;omega))
 ·by_cases h1:x.k=1
  ·by_cases h64:x.pn<=64
   ·go_wp2_with fail;refine(HRR.out v HB.out).mono ?_;rintro e w1⟨rfl,rfl⟩;go_wp2_with fail;have hr:=HRES.out;simp[h1,h64]at hr;subst hr;go_ret
    first|exact⟨rfl,HB.out⟩|(refine⟨Au (λb=>Ending.returned (Value.bool b)) ?_,HB.out⟩;first|(simp;done)|(simp;omega))
   ·go_wp2_with fail;have hr:=HRES.out;simp[h1,h64]at hr;subst hr;go_ret
    first|exact⟨rfl,HB.out⟩|(refine⟨Au (λb=>Ending.returned (Value.bool b)) ?_,HB.out⟩;first|(simp;done)|(simp;omega))
  ·by_cases h0:x.pn=0
   ·go_wp2_with fail;have hr:=HRES.out;simp[h1,h2,h0]at hr;subst hr;go_ret
    first|exact⟨rfl,HB.out⟩|(refine⟨Au (λb=>Ending.returned (Value.bool b)) ?_,HB.out⟩;first|(simp;done)|(simp;omega))
   ·go_wp2_with fail;have hr:=HRES.out;simp[h1,h2,h0]at hr;subst hr;go_ret
    first|exact⟨rfl,HB.out⟩|(refine⟨Au (λb=>Ending.returned (Value.bool b)) ?_,HB.out⟩;first|(simp;done)|(simp;omega))
theorem LU(K:Nat->Prop)(x:NV)(n:PN)(w:World)(h:NodeAt K w x n):
 Calls prog 111 #[.agg x.cells.toArray] w λe w'=>e= .returned (.bool (rvalueP n))/\Below w.heap.size w w':=by
 have B:=ER w x h.c.len;have HB:=ZQ (below_new w (.cells x.cells.toArray 68));have hk:=h.k;have hp:=h.v;have hpb:=hp.2.1;have HL:=ZQ hp.l;obtain⟨res,hres⟩:∃res,rvalueP n=res:=⟨_,rfl⟩;rw[hres];unfold rvalueP at hres;rw[HL.out,<-hk]at hres;have HRES:=ZQ hres;clear hp h hk hres;go_enter func111,ntmps111;go_upto_region 1 with fail;refine gen_w (p:=λv=>Code.wp _ _ _ _ v) (q:=λv=>NBx w.heap.size v x/\Below w.heap.size w v) ⟨B,HB.out⟩ ?_;clear B HB;rintro v⟨B,hb⟩;have HB:=ZQ hb;have c0:=B.c0;have c1:=B.c2;clear hb B;by_cases h2:x.k=1
 ·by_cases h0:x.vn=0
  ·go_wp2_with fail;have hr:=HRES.out;simp[h2,h0]at hr;subst hr;go_ret
   first|exact⟨rfl,HB.out⟩|(refine⟨Au (λb=>Ending.returned (Value.bool b)) ?_,HB.out⟩;first|(simp;done)|(simp;omega))
  ·by_cases h64:x.vn<=256
   ·go_wp2_with fail;have hr:=HRES.out;simp[h2,h0,h64]at hr;subst hr;go_ret
    first|exact⟨rfl,HB.out⟩|(refine⟨Au (λb=>Ending.returned (Value.bool b)) ?_,HB.out⟩;first|(simp;done)|(simp;omega))
   ·go_wp2_with fail;have hr:=HRES.out;simp[h2,h0,h64]at hr;subst hr;go_ret
    first|exact⟨rfl,HB.out⟩|(refine⟨Au (λb=>Ending.returned (Value.bool b)) ?_,HB.out⟩;first|(simp;done)|(simp;omega))
 ·by_cases h1:x.k=3
  ·by_cases h64:x.vn<=256
   ·go_wp2_with fail;have hr:=HRES.out;simp[h1,h64]at hr;subst hr;go_ret
    first|exact⟨rfl,HB.out⟩|(refine⟨Au (λb=>Ending.returned (Value.bool b)) ?_,HB.out⟩;first|(simp;done)|(simp;omega))
   ·go_wp2_with fail;have hr:=HRES.out;simp[h1,h64]at hr;subst hr;go_ret
    first|exact⟨rfl,HB.out⟩|(refine⟨Au (λb=>Ending.returned (Value.bool b)) ?_,HB.out⟩;first|(simp;done)|(simp;omega))
  ·by_cases h0:x.vn=0
   ·go_wp2_with fail;have hr:=HRES.out;simp[h1,h2,h0]at hr;subst hr;go_ret
    first|exact⟨rfl,HB.out⟩|(refine⟨Au (λb=>Ending.returned (Value.bool b)) ?_,HB.out⟩;first|(simp;done)|(simp;omega))
   ·go_wp2_with fail;have hr:=HRES.out;simp[h1,h2,h0]at hr;subst hr;go_ret
    first|exact⟨rfl,HB.out⟩|(refine⟨Au (λb=>Ending.returned (Value.bool b)) ?_,HB.out⟩;first|(simp;done)|(simp;omega))
theorem E4:z32.length=32:=rfl
theorem GW(K:Nat->Prop)(x:RV)(r:PR)(w:World)(h:RefAt K w x r)(hd:r.i.length<32->DecSaid r.i):
 Calls prog 140 #[.agg x.cells.toArray] w λe w'=>e= .returned (.bool (rrefP KD r))/\Below w.heap.size w w':=by
 have B:=J4 w x h.len;have HB:=ZQ (below_new w (.cells x.cells.toArray 65));have HK:=ZQ (show x.n<32->∀v,Below w.heap.size w v->Calls prog 141 #[.agg x.cells.toArray] v λe w'=>e= .returned (.int .i64 (KD r.i))/\Below v.heap.size v w' from λhx v hv=>Ie K x r v (h.go (Keep.below hv)) (hd (by rw[h.2.2.2.2.l];exact hx)));obtain⟨res,hres⟩:∃res,rrefP KD r=res:=⟨_,rfl⟩;obtain⟨kr,hkr⟩:∃kr,KD r.i=kr:=⟨_,rfl⟩;rw[hres];rw[hkr]at HK;unfold rrefP at hres;rw[hkr,<-h.1,<-h.2.1,h.2.2.2.2.l]at hres;have HRES:=ZQ hres;have hl:=h.len;have hnb:=h.2.2.2.2.2.1;clear h hd hkr hres;go_enter func140,ntmps140;go_upto_region 1 with fail;refine gen_w (p:=λv=>Code.wp _ _ _ _ v) (q:=λv=>RBx w.heap.size v x/\Below w.heap.size w v) ⟨B,HB.out⟩ ?_;clear B HB;rintro v⟨B,hb⟩;have HB:=ZQ hb;have HX:=ZQ B;have HLX:=ZQ hl;have c0:=B.c0;have c1:=B.c33;clear hb B hl;by_cases h0:x.k=0
 ·by_cases hz:x.d=z32
  ·have HQ:=ZQ (show(!(x.d==z32))=false from by simp[hz]);have HZ:=ZQ hz;clear hz;go_wp2_with (first|refine EJ rfl _ rfl w.heap.size 1 rfl x.d HLX.out HX.out.digest ?_|refine GS rfl _ _ rfl x.d z32 rfl rfl HLX.out E4 false HQ.out ?_|refine GR rfl _ _ rfl x.d z32 rfl rfl HLX.out E4 false HQ.out ?_|refine Cy rfl _ rfl w.heap.size 0 rfl x HLX.out HX.out.all ?_);go_ret;refine⟨Au (λb=>Ending.returned (Value.bool b)) ?_,HB.out⟩;rw[<-HRES.out,Bj]
   first|(simp[h0,HZ.out];done)|(simp[h0,HZ.out];omega)
  ·have HQ:=ZQ (show(!(x.d==z32))=true from by simp[hz]);have HZ:=ZQ hz;clear hz;go_wp2_with (first|refine EJ rfl _ rfl w.heap.size 1 rfl x.d HLX.out HX.out.digest ?_|refine GS rfl _ _ rfl x.d z32 rfl rfl HLX.out E4 true HQ.out ?_|refine GR rfl _ _ rfl x.d z32 rfl rfl HLX.out E4 true HQ.out ?_|refine Cy rfl _ rfl w.heap.size 0 rfl x HLX.out HX.out.all ?_);go_ret;refine⟨Au (λb=>Ending.returned (Value.bool b)) ?_,HB.out⟩;rw[<-HRES.out,Bj]
   first|(simp[h0,HZ.out];done)|(simp[h0,HZ.out];omega)
 ·by_cases h2:x.k=2
  ·go_wp2_with fail;go_ret;refine⟨Au (λb=>Ending.returned (Value.bool b)) ?_,HB.out⟩;rw[<-HRES.out,Bj]
   first|(simp[h2];done)|(simp[h2];omega)
  ·by_cases h1:x.k=1
   ·by_cases hz:x.d=z32
    ·have HQ:=ZQ (show(x.d==z32)=true from by simp[hz]);have HZ:=ZQ hz;clear hz;by_cases h32:x.n<32
     ·have hi32:(x.n:Int)<32:=(by omega);go_wp2_with (first|refine EJ rfl _ rfl w.heap.size 1 rfl x.d HLX.out HX.out.digest ?_|refine GS rfl _ _ rfl x.d z32 rfl rfl HLX.out E4 true HQ.out ?_|refine GR rfl _ _ rfl x.d z32 rfl rfl HLX.out E4 true HQ.out ?_|refine Cy rfl _ rfl w.heap.size 0 rfl x HLX.out HX.out.all ?_);refine(HK.out h32 v HB.out).mono ?_;rintro e w1⟨rfl,hb1⟩;have HB1:=ZQ (below_go HB.out hb1);clear hb1;go_wp2_with fail;go_ret;refine⟨Au (λb=>Ending.returned (Value.bool b)) ?_,HB1.out⟩;rw[<-HRES.out,Bj]
      first|(simp[h1,HZ.out,h32];done)|(simp[h1,HZ.out,h32];omega)
     ·have hi32:¬(x.n:Int)<32:=(by omega);go_wp2_with (first|refine EJ rfl _ rfl w.heap.size 1 rfl x.d HLX.out HX.out.digest ?_|refine GS rfl _ _ rfl x.d z32 rfl rfl HLX.out E4 true HQ.out ?_|refine GR rfl _ _ rfl x.d z32 rfl rfl HLX.out E4 true HQ.out ?_|refine Cy rfl _ rfl w.heap.size 0 rfl x HLX.out HX.out.all ?_);go_ret;refine⟨Au (λb=>Ending.returned (Value.bool b)) ?_,HB.out⟩;rw[<-HRES.out,Bj]
      first|(simp[h1,HZ.out,h32];done)|(simp[h1,HZ.out,h32];omega)
    ·have HQ:=ZQ (show(x.d==z32)=false from by simp[hz]);have HZ:=ZQ hz;clear hz;go_wp2_with (first|refine EJ rfl _ rfl w.heap.size 1 rfl x.d HLX.out HX.out.digest ?_|refine GS rfl _ _ rfl x.d z32 rfl rfl HLX.out E4 false HQ.out ?_|refine GR rfl _ _ rfl x.d z32 rfl rfl HLX.out E4 false HQ.out ?_|refine Cy rfl _ rfl w.heap.size 0 rfl x HLX.out HX.out.all ?_);go_ret;refine⟨Au (λb=>Ending.returned (Value.bool b)) ?_,HB.out⟩;rw[<-HRES.out,Bj]
     first|(simp[h1,HZ.out];done)|(simp[h1,HZ.out];omega)
   ·go_wp2_with fail;go_ret;refine⟨Au (λb=>Ending.returned (Value.bool b)) ?_,HB.out⟩;rw[<-HRES.out,Bj]
    first|(simp[h0,h2,h1];done)|(simp[h0,h2,h1];omega)
theorem LV(K:Nat->Prop)(x:NV)(n:PN)(w:World)(h:NodeAt K w x n)(hd:n.c.i.length<32->DecSaid n.c.i):
 Calls prog 112 #[.agg x.cells.toArray] w λe w'=>e= .returned (.bool (rchildP KD n))/\Below w.heap.size w w':=by
 have B:=ER w x h.c.len;have HB:=ZQ (below_new w (.cells x.cells.toArray 68));obtain⟨q,hq⟩:∃q,rrefP KD n.c=q:=⟨_,rfl⟩
 have HR:=ZQ (show∀v,Below w.heap.size w v->Calls prog 140 #[.agg x.c.cells.toArray] v λe w'=>e= .returned (.bool q)/\Below v.heap.size v w' from λv hv=>by
  rw[<-hq];exact GW K x.c n.c v (h.c.go (Keep.below hv)) hd)
 obtain⟨kr,hkr⟩:∃kr,KD n.c.i=kr:=⟨_,rfl⟩
 have HK:=ZQ (show q=true->∀v,Below w.heap.size w v->Calls prog 141 #[.agg x.c.cells.toArray] v λe w'=>e= .returned (.int .i64 kr)/\Below v.heap.size v w' from λhqt v hv=>by
  rw[<-hkr];exact Ie K x.c n.c v (h.c.go (Keep.below hv)) (hd (LI (hq.trans hqt))))
 obtain⟨res,hres⟩:∃res,rchildP KD n=res:=⟨_,rfl⟩;rw[hres];unfold rchildP at hres;rw[hkr,hq,<-h.k,<-h.c.1]at hres;have HRES:=ZQ hres;have HLX:=ZQ h.c.len;clear h hd hkr hres hq;go_enter func112,ntmps112;go_upto_region 1 with fail;refine gen_w (p:=λv=>Code.wp _ _ _ _ v) (q:=λv=>NBx w.heap.size v x/\Below w.heap.size w v) ⟨B,HB.out⟩ ?_;clear B HB;rintro v⟨B,hb⟩;have HB:=ZQ hb;have HX:=ZQ B;clear hb B;go_wp2_with (first|refine Cy rfl _ rfl w.heap.size 3 rfl x.c HLX.out HX.out.child ?_);refine(HR.out v HB.out).mono ?_;rintro e w1⟨rfl,hb1⟩;have B1:=HX.out.go hb1;have HB1:=ZQ (below_go HB.out hb1);have c0:=B1.c0;have c3:=B1.c3;have HX1:=ZQ B1;clear hb1 B1 HX HB;cases q with
 |false=>
  go_wp2_with fail;go_ret;refine⟨Au (λb=>Ending.returned (Value.bool b)) ?_,HB1.out⟩;rw[<-HRES.out,Bj]
  first|(simp;done)|(simp;omega)
 |true=>
  by_cases h2:x.k=2
  ·by_cases hc:x.c.k=2
   ·go_wp2_with fail;go_ret;refine⟨Au (λb=>Ending.returned (Value.bool b)) ?_,HB1.out⟩;rw[<-HRES.out,Bj]
    first|(simp[h2,hc];done)|(simp[h2,hc];omega)
   ·have hcq:(x.c.k==2)=false:=(by simp[hc]);go_wp2_with (first|refine Cy rfl _ rfl w.heap.size 3 rfl x.c HLX.out HX1.out.child ?_);refine(HK.out (by trivial) w1 HB1.out).mono ?_;rintro e w2⟨rfl,hb2⟩;have HB2:=ZQ (below_go HB1.out hb2);clear hb2;go_wp2_with fail;go_ret;refine⟨Au (λb=>Ending.returned (Value.bool b)) ?_,HB2.out⟩;rw[<-HRES.out,Bj]
    first|(simp[h2,hc];done)|(simp[h2,hc];omega)
  ·go_wp2_with fail;go_ret;refine⟨Au (λb=>Ending.returned (Value.bool b)) ?_,HB1.out⟩;rw[<-HRES.out,Bj]
   first|(simp[h2];done)|(simp[h2];omega)
theorem I8:∀(l:List PR)(r:PR),ways (l++[r])=ways l+(if r.k≠0 then 1 else 0)
 |[],r=>by simp[ways]
 |a::l,r=>by rw[Cq,ways,ways,I8 l r];omega
theorem GX:∀l:List PR,ways l<=l.length
 |[]=>by simp[ways]
 |r::l=>by
  have:=GX l;rw[ways,AU];split<;>omega
theorem DV{ks:List PR}{j:Nat}{r:PR}(h:ks[j]?=some r):ks.take (j+1)=ks.take j++[r]:=by
 rw[C4,h];rfl
theorem LW(w1:World)(y:RV)(hl:y.d.length=32)(C:Array Value):RBx w1.heap.size ((w1.alloc (.cells C 65)).setRow w1.heap.size y.cells.toArray) y:=⟨AE _ _ _ _ _ _ (Aj w1 _),hl⟩
theorem VD:(rz.cells.toArray:Array Value).size=34:=rfl
theorem M5(K:Nat->Prop)(x:NV)(n:PN)(w:World)(h:NodeAt K w x n)(hd:∀r∈n.ks,r.i.length<32->DecSaid r.i):
 Calls prog 113 #[.agg x.cells.toArray] w λe w'=>e= .returned (.bool (rkidsP KD n))/\Below w.heap.size w w':=by
 have B:=ER w x h.c.len;have HB:=ZQ (below_new w (.cells x.cells.toArray 68));have HKS:=ZQ h.ks;have hm:=h.m;have HKL:=ZQ hm.1;obtain⟨-,hm2,hm3,hm4,hm5⟩:=hm;unfold maxLen at hm3;have HM5:=ZQ hm5;obtain⟨res,hres⟩:∃res,rkidsP KD n=res:=⟨_,rfl⟩;rw[hres];unfold rkidsP at hres;rw[<-h.k,<-HKL.out,h.v.l]at hres;have HRES:=ZQ hres;have hvn:=h.v.2.1;have HD:=ZQ hd;clear h hd hres hm5;go_enter func113,ntmps113;go_upto_region 1 with fail;refine gen_w (p:=λv=>Code.wp _ _ _ _ v) (q:=λv=>NBx w.heap.size v x/\Below w.heap.size w v) ⟨B,HB.out⟩ ?_;clear B HB;rintro v⟨B,hb⟩;have HB:=ZQ hb;have c0:=B.c0;have c2:=B.c2;have c37:=B.c37;obtain⟨ka,hka0⟩:∃ka,x.ka=ka:=⟨_,rfl⟩;rw[hka0]at c37 HKS HM5;clear hb B hka0;by_cases h3:x.k=3
 ·by_cases h16:x.kn=16
  ·obtain⟨wy,hwy⟩:∃wy:Nat,(if 0<x.vn then 1 else 0)=wy:=⟨_,rfl⟩;have HWY:=ZQ hwy;rw[h16]at HKL c37 hm2 hm4;by_cases hv:0<x.vn
   ·have e1:wy=1:=(by rw[<-hwy,Ai hv]);have hvi:(x.vn:Int)>0:=(by omega);subst e1;clear hwy;go_wp2_with fail
    go_loopw [3,26] (λs3 s26 v=>∃j:Nat,j<=16/\s26= .int .i64 j/\s3= .int .i64 ((1+ways (n.ks.take j):Nat):Int)/\(∀r∈n.ks.take j,rrefP KD r=true)/\Below w.heap.size w v) (λ_ s26 _=>16-(intOf s26).toNat)
    case atStart=>exact⟨0,by omega,rfl,rfl,λr hr=>by simp at hr,HB.out⟩
    case round=>
     obtain⟨j,hj,rfl,rfl,hall,hbv⟩:=hrel;have HALL:=ZQ hall;have HBV:=ZQ hbv;clear hall hbv;by_cases hlt:j<16
     ·have hji:(j:Int)<16:=(by omega);obtain⟨r,hr⟩:∃r,n.ks[j]?=some r:=⟨_,Ac (by have:=HKL.out;omega)⟩;obtain⟨g,off,y,hka,_,hrg,hy⟩:=HKS.out j r hr;have HRG:=ZQ (EV hrg (λhl=>HBV.out.block g hl));have HYL:=ZQ hy.len;have HI:=ZQ (show(prog.info? 65).map (·.size)=some y.cells.toArray.size from by rw[DF,Bd,RV.len HYL.out]);have HS:=ZQ (show(rz.cells.toArray:Array Value).size=y.cells.toArray.size from by rw[VD,Bd,RV.len HYL.out]);have HO:=ZQ (Al y.one);obtain⟨q,hq⟩:∃q,rrefP KD r=q:=⟨_,rfl⟩
      have HRR:=ZQ (show∀u,Below w.heap.size w u->Calls prog 140 #[.agg y.cells.toArray] u λe w'=>e= .returned (.bool q)/\Below u.heap.size u w' from λu hu=>by
       rw[<-hq];exact GW K y r u (hy.go (Keep.below hu)) (HD.out r (A6 hr)))
      have HQ:=ZQ hq;have HR:=ZQ hr;have HYK:=ZQ hy.1;have hwl:ways (n.ks.take j)<=j:=(by have:=GX (n.ks.take j);rw[Am]at this;omega);have HW:=ZQ (show ways (n.ks.take (j+1))=ways (n.ks.take j)+(if y.k≠0 then 1 else 0)from by rw[DV hr,I8,hy.1]);clear hrg hy hq hr;subst hka;go_upto_region 11 with(first|refine Cy rfl _ rfl g (off+j*34) rfl y HYL.out HRG.out ?_|refine A7 rfl 65 _ _ rfl _ y.cells.toArray rfl rfl 65 _ (Aj _ _) HI.out HS.out HO.out ?_);refine gen_w (p:=λv=>Code.wp _ _ _ _ v) (q:=λv=>RBx wr.heap.size v y/\Below w.heap.size w v) ⟨LW _ _ HYL.out _,Below.setRow (HBV.out.alloc HBV.out.size _) HBV.out.size _⟩ ?_;rintro v2⟨B2,hb2⟩;have HX2:=ZQ B2;have HB2:=ZQ hb2;clear B2 hb2;go_wp2_with (first|refine Cy rfl _ rfl wr.heap.size 0 rfl y HYL.out HX2.out.all ?_);refine(HRR.out v2 HB2.out).mono ?_;rintro e w3⟨rfl,hb3⟩;have B3:=HX2.out.go hb3;have c03:=B3.c0;have HB3:=ZQ (below_go HB2.out hb3);clear hb3 B3;cases q with
      |false=>
       go_wp2_with fail;go_ret;refine⟨Au (λb=>Ending.returned (Value.bool b)) ?_,HB3.out⟩;rw[<-HRES.out,h3,h16,Ae (by decide),Ae (by decide)];have hno:n.ks.all (rrefP KD)=false:=by
        rw[List.all_eq_false];exact⟨r,A6 HR.out,by rw[HQ.out];simp⟩
       rw[hno];rfl
      |true=>
       have HALL2:=ZQ (show∀r∈n.ks.take (j+1),rrefP KD r=true from λr' hr'=>by
        rw[DV HR.out]at hr';rcases Bc.1 hr' with h|h
        ·exact HALL.out r' h
        ·simp only[AP,Cj,Et]at h;rw[h];exact HQ.out)
       by_cases hk0:y.k=0
       ·have hw2:=HW.out;rw[Ae (by simp[hk0])]at hw2;have HW2:=ZQ hw2;clear hw2;go_wp2_with fail
        go_roundw
        case rel=>exact⟨j+1,by omega,by simp,by rw[HW2.out];simp,HALL2.out,HB3.out⟩
        case measure=>simp[intOf];omega
       ·have hw2:=HW.out;rw[Ai hk0]at hw2;have HW2:=ZQ hw2;clear hw2;go_wp2_with fail
        go_roundw
        case rel=>exact⟨j+1,by omega,by simp,by rw[HW2.out];first|(simp;done)|(simp;omega),HALL2.out,HB3.out⟩
        case measure=>simp[intOf];omega
     ·have hji:¬(j:Int)<16:=(by omega);have e16:n.ks.take j=n.ks:=A8 (by have:=HKL.out;omega);rw[e16]at HALL⊢;have hyes:n.ks.all (rrefP KD)=true:=List.all_eq_true.2 HALL.out;have HYES:=ZQ hyes;have hwl:ways n.ks<=16:=(by have:=GX n.ks;have:=HKL.out;omega);clear hyes e16;go_wp2_with fail;go_ret;refine⟨Au (λb=>Ending.returned (Value.bool b)) ?_,HBV.out⟩;rw[<-HRES.out,h3,h16,Ae (by decide),Ae (by decide),HYES.out,EQ,Bj,HWY.out];simp
      try omega
   ·have e1:wy=0:=(by rw[<-hwy,Ae hv]);have hvi:¬(x.vn:Int)>0:=(by omega);subst e1;clear hwy;go_wp2_with fail
    go_loopw [3,26] (λs3 s26 v=>∃j:Nat,j<=16/\s26= .int .i64 j/\s3= .int .i64 ((0+ways (n.ks.take j):Nat):Int)/\(∀r∈n.ks.take j,rrefP KD r=true)/\Below w.heap.size w v) (λ_ s26 _=>16-(intOf s26).toNat)
    case atStart=>exact⟨0,by omega,rfl,rfl,λr hr=>by simp at hr,HB.out⟩
    case round=>
     obtain⟨j,hj,rfl,rfl,hall,hbv⟩:=hrel;have HALL:=ZQ hall;have HBV:=ZQ hbv;clear hall hbv;by_cases hlt:j<16
     ·have hji:(j:Int)<16:=(by omega);obtain⟨r,hr⟩:∃r,n.ks[j]?=some r:=⟨_,Ac (by have:=HKL.out;omega)⟩;obtain⟨g,off,y,hka,_,hrg,hy⟩:=HKS.out j r hr;have HRG:=ZQ (EV hrg (λhl=>HBV.out.block g hl));have HYL:=ZQ hy.len;have HI:=ZQ (show(prog.info? 65).map (·.size)=some y.cells.toArray.size from by rw[DF,Bd,RV.len HYL.out]);have HS:=ZQ (show(rz.cells.toArray:Array Value).size=y.cells.toArray.size from by rw[VD,Bd,RV.len HYL.out]);have HO:=ZQ (Al y.one);obtain⟨q,hq⟩:∃q,rrefP KD r=q:=⟨_,rfl⟩
      have HRR:=ZQ (show∀u,Below w.heap.size w u->Calls prog 140 #[.agg y.cells.toArray] u λe w'=>e= .returned (.bool q)/\Below u.heap.size u w' from λu hu=>by
       rw[<-hq];exact GW K y r u (hy.go (Keep.below hu)) (HD.out r (A6 hr)))
      have HQ:=ZQ hq;have HR:=ZQ hr;have HYK:=ZQ hy.1;have hwl:ways (n.ks.take j)<=j:=(by have:=GX (n.ks.take j);rw[Am]at this;omega);have HW:=ZQ (show ways (n.ks.take (j+1))=ways (n.ks.take j)+(if y.k≠0 then 1 else 0)from by rw[DV hr,I8,hy.1]);clear hrg hy hq hr;subst hka;go_upto_region 11 with(first|refine Cy rfl _ rfl g (off+j*34) rfl y HYL.out HRG.out ?_|refine A7 rfl 65 _ _ rfl _ y.cells.toArray rfl rfl 65 _ (Aj _ _) HI.out HS.out HO.out ?_);refine gen_w (p:=λv=>Code.wp _ _ _ _ v) (q:=λv=>RBx wr.heap.size v y/\Below w.heap.size w v) ⟨LW _ _ HYL.out _,Below.setRow (HBV.out.alloc HBV.out.size _) HBV.out.size _⟩ ?_;rintro v2⟨B2,hb2⟩;have HX2:=ZQ B2;have HB2:=ZQ hb2;clear B2 hb2;go_wp2_with (first|refine Cy rfl _ rfl wr.heap.size 0 rfl y HYL.out HX2.out.all ?_);refine(HRR.out v2 HB2.out).mono ?_;rintro e w3⟨rfl,hb3⟩;have B3:=HX2.out.go hb3;have c03:=B3.c0;have HB3:=ZQ (below_go HB2.out hb3);clear hb3 B3;cases q with
      |false=>
       go_wp2_with fail;go_ret;refine⟨Au (λb=>Ending.returned (Value.bool b)) ?_,HB3.out⟩;rw[<-HRES.out,h3,h16,Ae (by decide),Ae (by decide)];have hno:n.ks.all (rrefP KD)=false:=by
        rw[List.all_eq_false];exact⟨r,A6 HR.out,by rw[HQ.out];simp⟩
       rw[hno];rfl
      |true=>
       have HALL2:=ZQ (show∀r∈n.ks.take (j+1),rrefP KD r=true from λr' hr'=>by
        rw[DV HR.out]at hr';rcases Bc.1 hr' with h|h
        ·exact HALL.out r' h
        ·simp only[AP,Cj,Et]at h;rw[h];exact HQ.out)
       by_cases hk0:y.k=0
       ·have hw2:=HW.out;rw[Ae (by simp[hk0])]at hw2;have HW2:=ZQ hw2;clear hw2;go_wp2_with fail
        go_roundw
        case rel=>exact⟨j+1,by omega,by simp,by rw[HW2.out];simp,HALL2.out,HB3.out⟩
        case measure=>simp[intOf];omega
       ·have hw2:=HW.out;rw[Ai hk0]at hw2;have HW2:=ZQ hw2;clear hw2;go_wp2_with fail
        go_roundw
        case rel=>exact⟨j+1,by omega,by simp,by rw[HW2.out];first|(simp;done)|(simp;omega),HALL2.out,HB3.out⟩
        case measure=>simp[intOf];omega
     ·have hji:¬(j:Int)<16:=(by omega);have e16:n.ks.take j=n.ks:=A8 (by have:=HKL.out;omega);rw[e16]at HALL⊢;have hyes:n.ks.all (rrefP KD)=true:=List.all_eq_true.2 HALL.out;have HYES:=ZQ hyes;have hwl:ways n.ks<=16:=(by have:=GX n.ks;have:=HKL.out;omega);clear hyes e16;go_wp2_with fail;go_ret;refine⟨Au (λb=>Ending.returned (Value.bool b)) ?_,HBV.out⟩;rw[<-HRES.out,h3,h16,Ae (by decide),Ae (by decide),HYES.out,EQ,Bj,HWY.out];simp
      try omega
  ·go_wp2_with fail;go_ret;refine⟨Au (λb=>Ending.returned (Value.bool b)) ?_,HB.out⟩;rw[<-HRES.out,Bj]
   first|(simp[h3,h16];done)|(simp[h3,h16];omega)
 ·go_wp2_with fail;go_ret;refine⟨Au (λb=>Ending.returned (Value.bool b)) ?_,HB.out⟩;rw[<-HRES.out,Bj]
  first|(simp[h3];done)|(simp[h3];omega)
theorem Sm(K:Nat->Prop)(x:NV)(n:PN)(w:World)(h:NodeAt K w x n)(hd:∀r,(r=n.c∨r∈n.ks)->r.i.length<32->DecSaid r.i):
 Calls prog 79 #[.agg x.cells.toArray] w λe w'=>e= .returned (.bool (NR n))/\Below w.heap.size w w':=by
 have B:=ER w x h.c.len;have HB:=ZQ (below_new w (.cells x.cells.toArray 68));obtain⟨q0,hq0⟩:∃q,knownP n=q:=⟨_,rfl⟩;obtain⟨q1,hq1⟩:∃q,rpathP n=q:=⟨_,rfl⟩;obtain⟨q2,hq2⟩:∃q,rvalueP n=q:=⟨_,rfl⟩;obtain⟨q3,hq3⟩:∃q,rchildP KD n=q:=⟨_,rfl⟩;obtain⟨q4,hq4⟩:∃q,rkidsP KD n=q:=⟨_,rfl⟩
 have H1:=ZQ (show∀v,Below w.heap.size w v->Calls prog 110 #[.agg x.cells.toArray] v λe w'=>e= .returned (.bool q1)/\Below v.heap.size v w' from λv hv=>by
  rw[<-hq1];exact M4 K x n v (h.go (Keep.below hv)))
 have H2:=ZQ (show∀v,Below w.heap.size w v->Calls prog 111 #[.agg x.cells.toArray] v λe w'=>e= .returned (.bool q2)/\Below v.heap.size v w' from λv hv=>by
  rw[<-hq2];exact LU K x n v (h.go (Keep.below hv)))
 have H3:=ZQ (show∀v,Below w.heap.size w v->Calls prog 112 #[.agg x.cells.toArray] v λe w'=>e= .returned (.bool q3)/\Below v.heap.size v w' from λv hv=>by
  rw[<-hq3];exact LV K x n v (h.go (Keep.below hv)) (hd _ (.inl rfl)))
 have H4:=ZQ (show∀v,Below w.heap.size w v->Calls prog 113 #[.agg x.cells.toArray] v λe w'=>e= .returned (.bool q4)/\Below v.heap.size v w' from λv hv=>by
  rw[<-hq4];exact M5 K x n v (h.go (Keep.below hv)) (λr hr=>hd r (.inr hr)))
 have HNR:=ZQ (show NR n=(q0&&q1&&q2&&q3&&q4)from by unfold NR nright;rw[hq0,hq1,hq2,hq3,hq4]);rw[HNR.out];have HQ0:=ZQ (show(decide (x.k=1)||decide (x.k=2)||decide (x.k=3))=q0 from by rw[<-hq0,h.k];rfl);clear hq0 hq1 hq2 hq3 hq4 h hd HNR;go_enter func79,ntmps79;go_upto_region 1 with fail;refine gen_w (p:=λv=>Code.wp _ _ _ _ v) (q:=λv=>NBx w.heap.size v x/\Below w.heap.size w v) ⟨B,HB.out⟩ ?_;clear B HB;rintro v⟨B,hb⟩;have HB:=ZQ hb;have HX:=ZQ B;have c0:=B.c0;clear hb B
 go_cut [3]from 3 to 16 (λs3 u=>s3= .bool q0/\u=v)
 case first=>
  by_cases k1:x.k=1
  ·have hq:=HQ0.out;simp[k1]at hq;subst hq;go_wp2_with fail
   go_meet
   exact⟨rfl,rfl⟩
  ·by_cases k2:x.k=2
   ·have hq:=HQ0.out;simp[k2]at hq;subst hq;go_wp2_with fail
    go_meet
    exact⟨rfl,rfl⟩
   ·by_cases k3:x.k=3
    ·have hq:=HQ0.out;simp[k3]at hq;subst hq;go_wp2_with fail
     go_meet
     exact⟨rfl,rfl⟩
    ·have hq:=HQ0.out;simp[k1,k2,k3]at hq;subst hq;have e1:(x.k==1)=false:=(by simp[k1]);have e2:(x.k==2)=false:=(by simp[k2]);have e3:(x.k==3)=false:=(by simp[k3]);go_wp2_with fail
     go_meet
     exact⟨rfl,rfl⟩
 case rest=>
  obtain⟨rfl,rfl⟩:=hcut;cases q0 with
  |false=>
   go_wp2_with fail;go_ret;exact⟨rfl,HB.out⟩
  |true=>
   go_wp2_with (first|refine CC rfl _ rfl w.heap.size rfl x HX.out ?_);refine(H1.out _ HB.out).mono ?_;rintro e w1⟨rfl,hb1⟩;have HX1:=ZQ (HX.out.go hb1);have HB1:=ZQ (below_go HB.out hb1);clear hb1;cases q1 with
   |false=>
    go_wp2_with fail;go_ret;exact⟨rfl,HB1.out⟩
   |true=>
    go_wp2_with (first|refine CC rfl _ rfl w.heap.size rfl x HX1.out ?_);refine(H2.out w1 HB1.out).mono ?_;rintro e w2⟨rfl,hb2⟩;have HX2:=ZQ (HX1.out.go hb2);have HB2:=ZQ (below_go HB1.out hb2);clear hb2;cases q2 with
    |false=>
     go_wp2_with fail;go_ret;exact⟨rfl,HB2.out⟩
    |true=>
     go_wp2_with (first|refine CC rfl _ rfl w.heap.size rfl x HX2.out ?_);refine(H3.out w2 HB2.out).mono ?_;rintro e w3⟨rfl,hb3⟩;have HX3:=ZQ (HX2.out.go hb3);have HB3:=ZQ (below_go HB2.out hb3);clear hb3;cases q3 with
     |false=>
      go_wp2_with fail;go_ret;exact⟨rfl,HB3.out⟩
     |true=>
      go_wp2_with (first|refine CC rfl _ rfl w.heap.size rfl x HX3.out ?_);refine(H4.out w3 HB3.out).mono ?_;rintro e w4⟨rfl,hb4⟩;have HX4:=ZQ (HX3.out.go hb4);have HB4:=ZQ (below_go HB3.out hb4);clear hb4;go_wp2_with fail;go_ret;exact⟨rfl,HB4.out⟩
theorem Nc{b:List Int}{t:T}(hb:isB b)(h:decP b= .ok t):∀u∈t.its,u.bs.length<=16777216:=λu hu=>by
 obtain⟨h1,h2,h3⟩:=GP hb h;have hbo:=(Jo h2).2.1;have l1:=FE u;have l2:=FF hu;have l3:(bodyOf t).length=t.bs.length+(encs t.its).length:=by unfold bodyOf;rw[Ab]
 have l4:(bodyOf u).length=u.bs.length+(encs u.its).length:=by unfold bodyOf;rw[Ab]
 omega
structure Dd(w v:World):Prop where
 row:v.heap[w.heap.size]?=some (.cells nz.cells.toArray 68)
 bel:Below w.heap.size w v
 sz:w.heap.size+1<=v.heap.size
theorem Dd.go{v:World}(h:Dd w v)(hb:Below v.heap.size v v'):Dd w v':=⟨Below.row hb h.row,below_go h.bel hb,Ar h.sz hb.size⟩
theorem VF(w:World):Dd w (w.alloc (.cells nz.cells.toArray 68)):=⟨Aj _ _,below_new _ _,by simp⟩
theorem Pg(b:List Int)(hr:isB b->∀i,i.length<b.length->i.length<32->isB i->DecSaid i):DecSaid b:=by
 intro a n c w hag hn;have hbB:isB b:=hag.b;have HREC:=ZQ (hr hbB);have HAG:=ZQ hag;have HBB:=ZQ hbB;obtain⟨res,hres⟩:∃res,ND b=res:=⟨_,rfl⟩;rw[hres];rw[RQ hbB]at hres;have HRES:=ZQ hres;have HDD0:=ZQ (VF w);clear hag hr hres hbB;go_enter func94,ntmps94;go_upto_region 1 with fail;refine gen_w (p:=λv=>Code.wp _ _ _ _ v) (q:=λv=>Dd w v) HDD0.out ?_;clear HDD0;intro v D0;have HD0:=ZQ D0;have HCD:=ZQ (LF a n c b v (HAG.out.at D0.bel) hn);clear D0;go_wp2_with fail;refine HCD.out.mono ?_;intro e w1 hp;obtain⟨hb1,hp⟩:=hp;have HD1:=ZQ (HD0.out.go hb1);have HV0:=ZQ HD0.out.sz;cases hq:decP b with
 |bad er=>
  rw[hq]at hp;have hr:=HRES.out;rw[hq]at hr;have hr:none=res:=hr;subst hr;obtain⟨rfl,her⟩:=hp;have hee:((er:Int) !=0)=true:=by rw[bne_iff_ne];omega
  clear hb1 hq her;go_upto_region 2 with fail;refine gen_w (p:=λv=>Code.wp _ _ _ _ v) (q:=λv=>Dd w v) (HD1.out.go (below_new w1 _)) ?_;intro v2 D2;have HD2:=ZQ D2;clear D2;go_wp2_with (first|refine wpList_store_row rfl 68 _ _ rfl _ nz.cells.toArray rfl rfl 68 _ HD2.out.row (CF rfl) (Cu rfl) (all_oneCell_toArray (NV.one _)) ?_);refine bodyPost_ret (BW results94 _ _ w.heap.size nz rfl rfl (setRow_heap _ _ _ _ _ _ HD2.out.row)) rfl ?_;exact⟨Below.setRow HD2.out.bel (Nat.le_refl _) _,rfl⟩
 |ok t=>
  rw[hq]at hp;have hr:=HRES.out;rw[hq]at hr;obtain⟨y,rfl,hy⟩:=hp;have HLY:=ZQ (show LiesP (λb=>w.heap.size+1<=b) w1 t y from B6 (λb hb hlt=>⟨rfl,by have:=HV0.out;omega⟩) _ _ hy)
  have hr:(match nodeOfP t with
   |none=>none
   |some n=>if NR n=true then some n else none)=res:=hr
  have HR:=ZQ hr;have HSM:=ZQ (Nc HBB.out hq);have HSB:=ZQ (λn hn=>LJ (n:=n) HBB.out hq hn);clear hb1 hq hy hr HRES;go_upto_region 2 with fail;refine gen_w (p:=λv=>Code.wp _ _ _ _ v) (q:=λv=>Dd w v/\B1 w1.heap.size v y/\LiesP (λb=>w.heap.size+1<=b) v t y) ⟨HD1.out.go (below_new w1 _),EP w1 y,B6 (λb hb hlt=>⟨heap_alloc_old _ _ hlt,hb⟩) _ _ HLY.out⟩ ?_;rintro v2⟨D2,B2,L2⟩;have c0:=B2.c0;have c1:=B2.c1;have c2:=B2.c2;have HD2:=ZQ D2;have HNO:=ZQ (Q2 (w.heap.size+1) t y v2 L2 D2.sz HSM.out);clear D2 B2 L2;go_wp2_with fail;refine HNO.out.mono ?_;intro e w3 hp;obtain⟨hb3,hp⟩:=hp;have HD3:=ZQ (HD2.out.go hb3);have hr:=HR.out;cases hq:nodeOfP t with
  |none=>
   rw[hq]at hp hr;have hr:none=res:=hr;subst hr;obtain⟨y',hl',rfl⟩:=hp;have HL:=ZQ hl';clear hb3 hq hl' c0 c1 c2;go_upto_region 5 with(first|refine wpList_store_row rfl 68 _ _ rfl _ y'.cells.toArray rfl rfl 68 _ (heap_alloc_new _ _) (CF HL.out) (Cu HL.out) (all_oneCell_toArray (NV.one _)) ?_);refine gen_w (p:=λv=>Code.wp _ _ _ _ v) (q:=λv=>Dd w v) (HD3.out.go (Below.setRow (below_new w3 _) (Nat.le_refl _) _)) ?_;intro v4 D4;have HD4:=ZQ D4;clear D4;go_wp2_with (first|refine wpList_store_row rfl 68 _ _ rfl _ nz.cells.toArray rfl rfl 68 _ HD4.out.row (CF rfl) (Cu rfl) (all_oneCell_toArray (NV.one _)) ?_);refine bodyPost_ret (BW results94 _ _ w.heap.size nz rfl rfl (setRow_heap _ _ _ _ _ _ HD4.out.row)) rfl ?_;exact⟨Below.setRow HD4.out.bel (Nat.le_refl _) _,rfl⟩
  |some nn=>
   rw[hq]at hp hr;obtain⟨y',rfl,hna⟩:=hp;have hr:(if NR nn=true then some nn else none)=res:=hr;have HL:=ZQ hna.c.len;have HNA:=ZQ hna
   have HRI:=ZQ (show∀u,NodeAt (λ_=>True) u y' nn->Calls prog 79 #[.agg y'.cells.toArray] u λe w'=>e= .returned (.bool (NR nn))/\Below u.heap.size u w' from λu hu=>Sm _ y' nn u hu (λr hrr h32=>by
    obtain⟨s1,s2⟩:=HSB.out nn hq r hrr;exact HREC.out r.i s1 h32 s2))
   obtain⟨q,hqq⟩:∃q,NR nn=q:=⟨_,rfl⟩;rw[hqq]at hr HRI;have HR2:=ZQ hr;clear hb3 hq hna c0 c1 c2 hr hqq;go_upto_region 5 with(first|refine wpList_store_row rfl 68 _ _ rfl _ y'.cells.toArray rfl rfl 68 _ (heap_alloc_new _ _) (CF HL.out) (Cu HL.out) (all_oneCell_toArray (NV.one _)) ?_);refine gen_w (p:=λv=>Code.wp _ _ _ _ v) (q:=λv=>Dd w v/\NBx w3.heap.size v y'/\Below w3.heap.size w3 v) ⟨HD3.out.go (Below.setRow (below_new w3 _) (Nat.le_refl _) _),⟨setRow_heap _ _ _ _ _ _ (heap_alloc_new _ _),HL.out⟩,Below.setRow (below_new w3 _) (Nat.le_refl _) _⟩ ?_;rintro v4⟨D4,N4,b4⟩;have HD4:=ZQ D4;have HN4:=ZQ N4;have HB4:=ZQ b4;clear D4 N4 b4;go_wp2_with (first|refine CC rfl _ rfl w3.heap.size rfl y' HN4.out ?_);refine(HRI.out v4 (HNA.out.go (Keep.any HB4.out))).mono ?_;rintro e w5⟨rfl,hb5⟩;have HD5:=ZQ (HD4.out.go hb5);have HN5:=ZQ (HN4.out.go hb5);have HB5:=ZQ (below_go HB4.out hb5);clear hb5;have hr:=HR2.out;cases q with
   |false=>
    rw[if_neg (by simp)]at hr;subst hr;go_wp2_with (first|refine wpList_store_row rfl 68 _ _ rfl _ nz.cells.toArray rfl rfl 68 _ HD5.out.row (CF rfl) (Cu rfl) (all_oneCell_toArray (NV.one _)) ?_);refine bodyPost_ret (BW results94 _ _ w.heap.size nz rfl rfl (setRow_heap _ _ _ _ _ _ HD5.out.row)) rfl ?_;exact⟨Below.setRow HD5.out.bel (Nat.le_refl _) _,rfl⟩
   |true=>
    rw[if_pos rfl]at hr;subst hr;go_wp2_with (first|refine CC rfl _ rfl w3.heap.size rfl y' HN5.out ?_|refine wpList_store_row rfl 68 _ _ rfl _ y'.cells.toArray rfl rfl 68 _ HD5.out.row (CF HL.out) (Cu HL.out) (all_oneCell_toArray (NV.one _)) ?_);refine bodyPost_ret (BW results94 _ _ w.heap.size y' HL.out rfl (setRow_heap _ _ _ _ _ _ HD5.out.row)) rfl ?_;refine⟨Below.setRow HD5.out.bel (Nat.le_refl _) _,y',rfl,HNA.out.go λk hK hk=>?_⟩;have e:(w5.setRow w.heap.size y'.cells.toArray).heap[k]?=w3.heap[k]?:=(setRow_other _ _ _ _ (by have:=hK.1;omega)).trans (HB5.out.block k hk);exact⟨e,by have:=hK.1;omega,λo=>(World.frozen?_of_block (w:=w3) e).trans (hK.2 o)⟩
theorem Q3:∀(L:Nat)(b:List Int),b.length<=L->DecSaid b:=by
 intro L
 induction L using Nat.strongRecOn with
 |_ L ih=>
  intro b hL;exact Pg b λ_ i h1 _ _=>ih i.length (by omega) i (Aa _)
theorem K9(b:List Int):DecSaid b:=Q3 b.length b (Aa _)
theorem Q4(K:Nat->Prop)(x:NV)(n:PN)(w:World)(h:NodeAt K w x n):
 Calls prog 79 #[.agg x.cells.toArray] w λe w'=>e= .returned (.bool (NR n))/\Below w.heap.size w w':=Sm K x n w h λr _ _=>K9 r.i
theorem KA{P:Program}(w:World)(base:Nat)(t ty e:TypeId)(i:TypeInfo)(z:Value)(size bytes:Nat)(ht:P.underlying t=some (.slice e))(hi:P.info? e=some i)(hz:i.zero=some z)
 (hsize:i.size=size) (hby:i.bytes=bytes) (hzs:z.cells.size=size) (hsz:0<size)
 (v:Value) (n:Nat) (xs:List Value) (hown:w.ownsRow base e size v n xs)
 (a:Addr) (m c:Nat) (news:List Value) (hl:news.length=m*size) (hnews:∀j u,news[j]?=some u->w.cell? (a.add j)=some u) (h1:∀u∈news,u.oneCell'=true) (hm0:0<m)
 (h63:n+m<=maxLen) (hbytes:((n+m)+(n+m)/4+192)*bytes<=281474976710656) (hbase:base<=w.heap.size):
 ∃v' w',(Builtin.append_ #[t,t] ty #[v, .slice (some a) m c]).run P w= .ok v' w'/\w'.ownsRow base e size v' (n+m) (xs++news)/\w.grownBy w' v.ownBlock/\
  (v'= .slice none 0 0↔v= .slice none 0 0/\m=0)/\(v'.ownBlock=v.ownBlock∨v'.ownBlock=some w.heap.size):=by
 obtain⟨v',w',r1,r2,r3,r4⟩:=run_append_own_wide w base t ty e i z size bytes ht hi hz hsize hby hzs hsz v n xs hown a m c news hl hnews h1 h63 hbytes hbase;refine⟨v',w',r1,r2,r3,r4,?_⟩;subst hsize;subst hby
 have hsmall:n+m<=9223372036854775807:=by simp only[maxLen]at h63;omega
 rcases hown.2 with⟨rfl,rfl⟩|⟨g,cap,cur,rfl,hbg,hg,hnc,hcm,hcs,htake⟩
 ·have hr:=run_append_nil (P:=P) w t ty e i z ht hi hz a m c news hl hnews hm0 (by omega) (by
   have h2:m*i.bytes<=(0+m+(0+m)/4+192)*i.bytes:=Nat.mul_le_mul_right _ (by omega);omega)
  rw[hr]at r1;cases r1;exact .inr rfl
 ·by_cases hroom:n+m<=cap
  ·have hfit:n*i.size+news.length<=cur.size:=(by rw[hl,hcs,<-Nat.add_mul];exact Nat.mul_le_mul_right _ hroom);have hr:=run_append_room (P:=P) w t ty e i ht hi g n cap cur hg a m c news hl hnews h1 hroom hfit;rw[hr]at r1;cases r1;exact .inl rfl
  ·have holds:∀j u,xs[j]?=some u->w.cell? ((⟨g,0,none⟩:Addr).add j)=some u:=hown.cells (g:=g) rfl;have hr:=run_append_grow (P:=P) w t ty e i z ht hi hz ⟨g,0,none⟩ n cap xs hown.1 holds a m c news hl hnews (by omega) (by omega) (growslice_fits_wide (by omega) hbytes);rw[hr]at r1;cases r1;exact .inr rfl
theorem V.ext{a b:V}(h0:Value.bool a.l= .bool b.l)(h1:Value.slice a.ba a.bn a.bc= .slice b.ba b.bn b.bc)(h2:Value.slice a.ia a.m a.ic= .slice b.ia b.m b.ic):a=b:=by
 cases a;cases b;cases h0;cases h1;cases h2;rfl
theorem Ij{P:Nat->Prop}{w:World}{g off:Nat}(hP:P g):∀{ts:List T}{k:Nat},(∀(i:Nat)(t:T),ts[i]?=some t->∃y:V,w.cell? ⟨g,off+(k+i)*3,none⟩=some (.bool y.l)/\w.cell? ⟨g,off+(k+i)*3+1,none⟩=some (.slice y.ba y.bn y.bc)/\w.cell? ⟨g,off+(k+i)*3+2,none⟩=some (.slice y.ia y.m y.ic)/\LiesP P w t y)->LiesPAll P w ts (some ⟨g,off,none⟩) k
 |[],_,_=>D9
 |t::r,k,h=>by
  obtain⟨y,h0,h1,h2,h3⟩:=h 0 t rfl;refine liesPAll_cons.2 ⟨⟨g,off,y,⟨rfl,hP⟩,h0,h1,h2,h3⟩,Ij hP λi u hu=>?_⟩;obtain⟨z,z0,z1,z2,z3⟩:=h (i+1) u (by simpa using hu);rw[show k+(i+1)=k+1+i from by omega]at z0 z1 z2;exact⟨z,z0,z1,z2,z3⟩
theorem Ka(P:Nat->Prop)(a:Option Addr)(m c:Nat)(ts:List T)(hm:m=ts.length/\m<=c/\c<=maxLen/\m<=1000)(w:World)(hall:LiesPAll P w ts a 0)(hnil:a=none->c=0)(hP:∀b,w.heap.size<=b->P b):
 Calls prog 116 #[.slice a m c] w λe w'=>(∃y:V,e= .returned (.agg #[.bool y.l, .slice y.ba y.bn y.bc, .slice y.ia y.m y.ic])/\LiesP P w' (.mk true [] ts) y)/\Below w.heap.size w w':=by
 have hall0:LiesAll w ts a 0:=Gx (λt _ x h=>Dj t x h) hall;refine(UY a m c ts ⟨hm.1,hm.2.1,hm.2.2.1,by omega⟩ w hall0 (by omega) hnil).mono ?_;rintro e w'⟨ys,hyl,rfl,hrow,hat,hb⟩;refine⟨⟨⟨true,none,0,0,some ⟨w.heap.size+1,0,none⟩,m,m⟩,rfl,?_⟩,hb⟩;refine liesP_eq.2 ⟨⟨rfl,⟨.inl ⟨rfl,rfl⟩,λ_=>⟨rfl,rfl⟩,rfl,λx hx=>by cases hx⟩,hm.1,Aa _,by show m<=maxLen;unfold maxLen;omega,⟨AD _,by show m<=_;omega⟩,λg off e=>by cases e⟩,Ij (hP _ (by omega)) λi t ht=>?_⟩;have hi:i<ys.length:=by rw[hyl,hm.1];exact(Aw.1 ht).1
 obtain⟨g,off,u,A⟩:=hat i ys[i] (Ac hi);obtain⟨g',off',y',A'⟩:=DP hall i t ht;rw[AM]at A';have e:=A.ha;rw[A'.ha]at e;cases e;have hy:ys[i]=y':=V.ext (CQ (A.c0.symm.trans A'.c0)) (CQ (A.c1.symm.trans A'.c1)) (CQ (A.c2.symm.trans A'.c2));have hc:∀j u,(V.cells ys[i])[j]?=some u->w'.cell? ⟨w.heap.size+1,i*3+j,none⟩=some u:=λj u hu=>by
  rw[Ad _ _ _ _ _ _ hrow,Dg];have e:ys=ys.take i++ys[i]::ys.drop (i+1):=by rw[<-Bz hi,Be]
  have hl:(ys.take i).length=i:=by rw[Am];omega
  have hf:=FC (ys.take i) ys[i] (ys.drop (i+1)) j u hu;rw[hl,<-e]at hf;exact hf
 refine⟨ys[i],?_,?_,?_,?_⟩
 ·have:=hc 0 _ rfl;rwa [show i*3+0=0+(0+i)*3 from by omega]at this
 ·have:=hc 1 _ rfl;rwa [show i*3+1=0+(0+i)*3+1 from by omega]at this
 ·have:=hc 2 _ rfl;rwa [show i*3+2=0+(0+i)*3+2 from by omega]at this
 ·rw[hy];exact B6 (λb hb' hlt=>⟨hb.block b hlt,hb'⟩) t y' A'.li
theorem Kb{wr w1:World}{it:Value}{t:T}(hown:OwnI wr w.heap.size it ys)(hall:AllP (λb=>w.heap.size<=b/\it.ownBlock≠some b) wr ts ys)(hbel:Below w.heap.size w wr)(hb1:Below wr.heap.size wr w1)
 (hy:LiesP (λb=>wr.heap.size<=b) w1 t y) (hlen:ys.length<=1000000000) (ty:TypeId):
 ∃v' w3,(Builtin.append_ #[107,107] ty #[it, .slice (some ⟨w1.heap.size,0,none⟩) 1 1]).run prog (w1.alloc (.cells #[.bool y.l, .slice y.ba y.bn y.bc, .slice y.ia y.m y.ic] 109))= .ok v' w3/\
  OwnI w3 w.heap.size v' (ys++[y])/\AllP (λb=>w.heap.size<=b/\v'.ownBlock≠some b) w3 (ts++[t]) (ys++[y])/\Below w.heap.size w w3/\(∀b,b<w1.heap.size->it.ownBlock≠some b->w3.heap[b]?=w1.heap[b]?)/\w1.heap.size<=w3.heap.size:=by
 obtain⟨Y,hY⟩:∃Y:Obj,Obj.cells #[.bool y.l, .slice y.ba y.bn y.bc, .slice y.ia y.m y.ic] 109=Y:=⟨_,rfl⟩;rw[hY];have hs2:(w1.alloc Y).heap.size=w1.heap.size+1:=by simp
 have hb2:Below wr.heap.size wr (w1.alloc Y):=hb1.alloc hb1.size _;have hz:=hbel.size;have hz1:=hb1.size;have hblk:(w1.alloc Y).heap[w1.heap.size]?=some Y:=Aj w1 Y;have hnews:∀j u,(V.cells y)[j]?=some u->(w1.alloc Y).cell? ((⟨w1.heap.size,0,none⟩:Addr).add j)=some u:=by
  intro j u hu;rw[BO,AM];rw[<-hY]at hblk⊢;rw[Ad _ _ _ _ _ _ hblk];simpa[V.cells]using hu
 obtain⟨v',w3,hrun,hown3,hgr,hown4⟩:=Jq (Em hown λg _ hg=>hb2.block g hg) y _ 1 hnews (by omega) hlen ty;have hfar:∀b,b<w1.heap.size+1->it.ownBlock≠some b->w3.heap[b]?=(w1.alloc Y).heap[b]?:=λb hb hne=>hgr.block b (by rw[hs2];exact hb) (λh=>hne h.symm);have hit:∀g,it.ownBlock=some g->g<wr.heap.size:=λg hg=>(Fs hown hg).2;have hv':∀b,b<w1.heap.size->it.ownBlock≠some b->v'.ownBlock≠some b:=λb hb hne h=>by
  rcases hown4 with h4|h4
  ·exact hne (h4.symm.trans h)
  ·rw[h4,hs2]at h;cases h;omega
 refine⟨v',w3,hrun,hown3,AllP.snoc ?_ (hall.mono λb hb hlt=>⟨?_,hb.1,hv' b (by omega) hb.2⟩),?_,λb hb hne=>?_,by have:=hgr.size;omega⟩
 ·refine B6 (λb hb hlt=>⟨?_,by omega,?_⟩) t y hy
  ·have hne:it.ownBlock≠some b:=λh=>by have:=hit b h;omega
   rw[hfar b (by omega) hne,Az _ _ _ hlt]
  ·exact hv' b hlt (λh=>by have:=hit b h;omega)
 ·rw[hfar b (by omega) hb.2];exact hb2.block b hlt
 ·refine hbel.trans ⟨hgr.os.trans hb2.os,hgr.tape.trans hb2.tape,hgr.output.trans hb2.output,Ar hb2.size hgr.size,λb hb=>?_⟩;rw[hfar b (by omega) (λh=>by have:=(Fs hown h).1;omega)];exact hb2.block b (by omega)
 ·rw[hfar b (by omega) hne,Az _ _ _ hb]
structure Nn(w v:World)(x:NV):Prop where
 row:v.heap[w.heap.size+1]?=some (.cells #[.bool false, .slice none 0 0, .slice none 0 0] 109)
 bx:NBx w.heap.size v x
 bel:Below w.heap.size w v
 sz:w.heap.size+2<=v.heap.size
theorem Nn.go{v:World}(h:Nn w v x)(hb:Below v.heap.size v v'):Nn w v' x:=⟨Below.row hb h.row,h.bx.go hb,below_go h.bel hb,Ar h.sz hb.size⟩
theorem VG(w:World)(x:NV)(hl:x.c.d.length=32):Nn w ((w.alloc (.cells x.cells.toArray 68)).alloc (.cells #[.bool false, .slice none 0 0, .slice none 0 0] 109)) x:=by
 have s1:(w.alloc (.cells x.cells.toArray 68)).heap.size=w.heap.size+1:=by simp
 refine⟨?_,(ER w x hl).go (below_new _ _),below_go (below_new w _) (below_new _ _),by simp⟩;have:=Aj (w.alloc (.cells x.cells.toArray 68)) (.cells #[.bool false, .slice none 0 0, .slice none 0 0] 109);rwa [s1]at this
theorem Nn.x0{v:World}(h:Nn w v x):v.cell? ⟨w.heap.size+1,0,none⟩=some (.bool false):=by rw[Ad _ _ _ _ _ _ h.row];rfl
theorem Nn.x1{v:World}(h:Nn w v x):v.cell? ⟨w.heap.size+1,1,none⟩=some (.slice none 0 0):=by rw[Ad _ _ _ _ _ _ h.row];rfl
theorem Nn.x2{v:World}(h:Nn w v x):v.cell? ⟨w.heap.size+1,2,none⟩=some (.slice none 0 0):=by rw[Ad _ _ _ _ _ _ h.row];rfl
theorem Nn.xf{v:World}(h:Nn w v x):∀o,v.frozen? ⟨w.heap.size+1,o,none⟩=false:=λo=>AY _ _ _ _ _ h.row
theorem GY{v:World}{t:T}(h:Nn w v x)(hy:LiesP (λb=>w.heap.size+2<=b) v t y):
 IPost w t (.returned (.agg #[.bool y.l, .slice y.ba y.bn y.bc, .slice y.ia y.m y.ic])) (((v.setCell ⟨w.heap.size+1,0,none⟩ (.bool y.l)).setCell ⟨w.heap.size+1,1,none⟩ (.slice y.ba y.bn y.bc)).setCell ⟨w.heap.size+1,2,none⟩ (.slice y.ia y.m y.ic)):=
 ⟨⟨y,rfl,B6 (λb hb hlt=>⟨D3 (by omega) _ _ _,by omega⟩) _ _ hy⟩,Ch h.bel (by omega) _ _ _⟩
theorem Q5{base:Nat}{u:World}{it:Value}(hown:OwnI u base it ys)(hall:AllP (λb=>base<=b/\it.ownBlock≠some b) u ts ys):∃ia ic,it= .slice ia ts.length ic/\ts.length<=ic/\ic<=maxLen/\LiesPAll (λb=>base<=b) u ts ia 0:=
 LD (P:=λb=>base<=b) hown (hall.mono λb hb _=>⟨rfl,hb.1⟩) (λg hg=>World.ownsRow.lt hown g hg|>.1)
theorem LX(K:Nat->Prop)(x:NV)(n:PN)(w:World)(h:NodeAt K w x n)(hks:n.ks.length<=100):
 Calls prog 114 #[.agg x.cells.toArray] w (IPost w (.mk true [] (n.ks.map refItemP++[.mk false n.v []]))):=by
 have HNN:=ZQ (VG w x h.c.len);have HH:=ZQ h;obtain⟨hm1,hm2,hm3,hm4,hm5⟩:=h.m;unfold maxLen at hm3;have HM1:=ZQ hm1;have hkn:x.kn<=100:=by rw[hm1];exact hks
 obtain⟨ka,hka⟩:∃ka,x.ka=ka:=⟨_,rfl⟩;have hks0:=h.ks;rw[hka]at hks0;have HKS:=ZQ hks0;have HKA:=ZQ hka;clear h hm1 hm4 hm5 hka hks0 hks;go_enter func114,ntmps114;go_upto_region 1 with fail;refine gen_w (p:=λv=>Code.wp _ _ _ _ v) (q:=λv=>Nn w v x) HNN.out ?_;clear HNN;intro v N0;have c37:=N0.bx.c37;rw[HKA.out]at c37;have HN0:=ZQ N0;clear N0;go_wp2_with fail
 go_loopw [3,9] (λit s9 u=>∃(j:Nat)(ys:List V),j<=x.kn/\s9= .int .i64 j/\ys.length=j/\OwnI u v.heap.size it ys/\AllP (λb=>v.heap.size<=b/\it.ownBlock≠some b) u ((n.ks.take j).map refItemP) ys/\Below v.heap.size v u) (λ_ s9 _=>x.kn-(intOf s9).toNat)
 case atStart=>exact⟨0,[],by omega,rfl,rfl,CH _ _ _ _,trivial,Ak _ _⟩
 case round=>
  obtain⟨j,ys,hj,rfl,hyl,hown,hall,hbel⟩:=hrel;have HYL:=ZQ hyl;have HOWN:=ZQ hown;have HALL:=ZQ hall;have HBEL:=ZQ hbel;clear hyl hown hall hbel;by_cases hlt:j<x.kn
  ·have hji:(j:Int)<x.kn:=(by omega);obtain⟨r,hr⟩:∃r,n.ks[j]?=some r:=⟨_,Ac (by have:=HM1.out;omega)⟩;obtain⟨g,off,y,hka,_,hrg,hy⟩:=HKS.out j r hr;subst hka;have HRG:=ZQ (EV hrg (λhl=>(below_go HN0.out.bel HBEL.out).block g hl));have HL:=ZQ hy.len;have HY:=ZQ hy;have HR:=ZQ hr;clear hrg hy hr;go_upto_region 5 with(first|refine Cy rfl _ rfl g (off+j*34) rfl y HL.out HRG.out ?_|refine A7 rfl 65 _ _ rfl _ y.cells.toArray rfl rfl 65 _ (Aj _ _) (Dn HL.out) (DA HL.out) (Al (RV.one _)) ?_);refine gen_w (p:=λv=>Code.wp _ _ _ _ v) (q:=λu=>RBx wr.heap.size u y/\Below wr.heap.size wr u) ⟨⟨AE _ _ _ _ _ _ (Aj _ _),HL.out⟩,Below.setRow (below_new wr _) (Aa _) _⟩ ?_;rintro u1⟨B1',b1⟩;have HX1:=ZQ B1';have HB1:=ZQ b1;have HRF:=ZQ (K6 K y r u1 (HY.out.go (Keep.below (below_go HN0.out.bel (below_go HBEL.out b1)))));clear B1' b1;go_wp2_with (first|refine Cy rfl _ rfl wr.heap.size 0 rfl y HL.out HX1.out.all ?_);refine HRF.out.mono ?_;rintro e w2⟨⟨z,rfl,hz⟩,hb2⟩;have hz':LiesP (λb=>wr.heap.size<=b) w2 (refItemP r) z:=B6 (λb hb hlt=>⟨rfl,Ar HB1.out.size hb⟩) _ _ hz;obtain⟨v',w3,hrun,hown3,hall3,hbel3,hfar,hsz3⟩:=Kb HOWN.out HALL.out HBEL.out (below_go HB1.out hb2) hz' (by have:=HYL.out;omega) 107;have HRUN:=ZQ hrun;have HO3:=ZQ hown3;have HA3:=ZQ (show AllP (λb=>v.heap.size<=b/\v'.ownBlock≠some b) w3 ((n.ks.take (j+1)).map refItemP) (ys++[z])from by rw[DV HR.out,BB];exact hall3);have HB3:=ZQ hbel3;clear hz hz' hb2 hrun hown3 hall3 hbel3 hfar hsz3;go_wp2_with (first|refine E6 rfl _ _ rfl _ _ rfl rfl HRUN.out ?_)
   go_roundw
   case rel=>exact⟨j+1,ys++[z],by omega,by simp,by have:=HYL.out;simp;omega,HO3.out,HA3.out,HB3.out⟩
   case measure=>simp[intOf];omega
  ·have hji:¬(j:Int)<x.kn:=(by omega);have hjk:j=x.kn:=(by omega);have hall:=HALL.out;rw[hjk,HM1.out,List.take_length]at hall;have HA:=ZQ hall;have NR':=HN0.out.go HBEL.out;have c2:=NR'.bx.c2;have HNR:=ZQ NR';have hv:=HH.out.v;have HTX:=ZQ (FD x.va x.vn x.vc n.v wr (hv.1.at (below_go HN0.out.bel HBEL.out)) hv.2.1);have hvl:=hv.l;have hvn:=hv.2.1;have hvb:=hv.1.b;have HVL:=ZQ hvl;have HVB:=ZQ hvb;clear hjk hall NR' hv hvl hvb;go_wp2_with fail;refine HTX.out.mono ?_;rintro e w2⟨rfl,hrow,hb2⟩;have hz':LiesP (λb=>wr.heap.size<=b) w2 (.mk false n.v []) ⟨false,some ⟨wr.heap.size+1,0,none⟩,x.vn,x.vn,none,0,0⟩:=GC hrow HVL.out HVB.out hvn (by omega);obtain⟨v',w3,hrun,hown3,hall3,hbel3,hfar,hsz3⟩:=Kb HOWN.out HA.out HBEL.out hb2 hz' (by have:=HYL.out;omega) 107;obtain⟨ia,ic,rfl,hic1,hic2,hlp⟩:=Q5 hown3 hall3;have hml:(n.ks.map refItemP++[T.mk false n.v []]).length=x.kn+1:=(by have:=HM1.out;simp;omega);rw[hml]at hrun hic1;simp only at hrun;have HRUN:=ZQ hrun;have HN3:=ZQ (show Nn w w3 x from HN0.out.go hbel3);have HML:=ZQ hml;have HLP:=ZQ hlp;have HS0:=ZQ HN0.out.sz;have HS3:=ZQ hbel3.size
   have HII:=ZQ (show ia=none->ic=0 from λe=>by
    subst e;rcases hown3.2 with⟨h1,h2⟩|⟨g,cap,cur,h1,_⟩
    ·rw[hml]at h1;cases h1
    ·cases h1)
   have HLL:=ZQ (Ka (λb=>w.heap.size+2<=b) ia (x.kn+1) ic _ ⟨hml.symm,hic1,hic2,by omega⟩ w3 (DU (λb hb hlt=>⟨rfl,by have:=HS0.out;omega⟩) (λt ht z hz=>B6 (λb hb hlt=>⟨rfl,by have:=HS0.out;omega⟩) t z hz) HLP.out) HII.out (λb hb=>by have:=HS0.out;have:=HS3.out;omega));obtain⟨kn1,hkn1⟩:∃kn1,x.kn+1=kn1:=⟨_,rfl⟩;rw[hkn1]at HRUN HLL;clear hrow hb2 hz' hrun hown3 hall3 hbel3 hfar hsz3 hlp hic1 hic2 hml c2 hkn1;go_wp2_with (first|refine E6 rfl _ _ rfl _ _ rfl rfl HRUN.out ?_);refine HLL.out.mono ?_;rintro e w4⟨⟨z,rfl,hz⟩,hb4⟩;have N4:=HN3.out.go hb4;have x0:=N4.x0;have x1:=N4.x1;have x2:=N4.x2;have xf:=N4.xf;have HN4:=ZQ N4;have HZ:=ZQ hz;clear N4 hz hb4;go_wp2_with fail;have hr:=put3 HN4.out.row (.bool z.l) (.slice z.ba z.bn z.bc) (.slice z.ia z.m z.ic);refine Aq (Bg results114 _ _ (w.heap.size+1) 109 _ (0,0) _ rfl hr underlying109 rfl (by kernel_rfl)) rfl ?_;exact GY HN4.out HZ.out
end Go.Proofs.YtefhepcplempkaaGreat
namespace Go.Proofs.YtefhepcplempkaaGreat.Ni
theorem GE(w:World)(z:Int):OwnB (w.alloc (.cells #[.int .u8 z] 5)) w.heap.size (.slice (some ⟨w.heap.size,0,none⟩) 1 1) [z]:=
 ⟨rfl, .inr ⟨w.heap.size,1,#[.int .u8 z],rfl,Aa _,Aj _ _,Aa _,by unfold maxLen;omega,rfl,rfl⟩⟩
theorem Ph(w:World)(y z:Int):OwnB (w.alloc (.cells #[.int .u8 y, .int .u8 z] 5)) w.heap.size (.slice (some ⟨w.heap.size,0,none⟩) 2 2) [y,z]:=
 ⟨rfl, .inr ⟨w.heap.size,2,#[.int .u8 y, .int .u8 z],rfl,Aa _,Aj _ _,Aa _,by unfold maxLen;omega,rfl,rfl⟩⟩
theorem Zz:bits BinOp.or IntKind.u8 2 1=3:=by decide+kernel
theorem Z0:bits BinOp.or IntKind.u8 0 1=1:=by decide+kernel
theorem VH(n:Nat)(leaf:Bool)(w:World)(hn:n<=140737488355328):
 Calls prog 142 #[.int .i64 n, .bool leaf] w λe w'=>(∃v,e= .returned v/\OwnB w' w.heap.size v (hdP n leaf))/\Below w.heap.size w w':=by
 have h1:=Zz;have h0:=Z0;unfold hdP;by_cases he:n%2=0
 ·rw[Ai he];have hei:(n:Int)%2=0:=by omega
  clear he;cases leaf with
  |true=>
   go_enter func142,ntmps142;go_wp2_with fail;go_ret;exact⟨⟨_,rfl,Ph _ _ _⟩,below_new _ _⟩
  |false=>
   go_enter func142,ntmps142;go_wp2_with fail;go_ret;exact⟨⟨_,rfl,Ph _ _ _⟩,below_new _ _⟩
 ·rw[Ae he];have hei:(n:Int)%2=1:=by omega
  clear he;cases leaf with
  |true=>
   go_enter func142,ntmps142;go_wp2_with fail;go_ret;exact⟨⟨_,rfl,GE _ _⟩,below_new _ _⟩
  |false=>
   go_enter func142,ntmps142;go_wp2_with fail;go_ret;exact⟨⟨_,rfl,GE _ _⟩,below_new _ _⟩
theorem pack_any(a:Option Addr)(n c:Nat)(p:List Int)(leaf:Bool)(w:World)(h:Ag w a n c p)(hn:n+2<=140737488355328):
 Calls prog 115 #[.slice a n c, .bool leaf] w λe w'=>(∃a' m,e= .returned (.tuple #[.slice a' m m, .int .i64 ((packP p leaf).2:Nat)])/\Ag w' a' m m (packP p leaf).1)/\Below w.heap.size w w':=by
 have hl:=h.l;have hhd:=VH n leaf w (by omega);have hpk:=O9 (p:=p) (leaf:=leaf);have hlen:=hd_len n leaf;have hfb:=Lq (p:=p) (leaf:=leaf) h.b;rw[hl]at hpk hfb;have hpp:packP p leaf=if rightP p=true then(kk (hdP n leaf++p),0)else([],40):=by unfold packP;rw[hl]
 rw[hpp];clear hpp;generalize hdP n leaf=hd at*;obtain⟨⟨r1,r2⟩,hr⟩:∃r,(if rightP p=true then(kk (hd++p),0)else(([]:List Int),40))=r:=⟨_,rfl⟩;obtain⟨⟨k1,k2⟩,hk⟩:∃r,(if rightP p=true then(kk (hd++p),true)else(([]:List Int),false))=r:=⟨_,rfl⟩;rw[hr];rw[hk]at hpk;simp only
 have HT:Hid (k2=true->r1=k1/\r2=0):=ZQ (λh=>by
  by_cases hq:rightP p=true
  ·rw[Ai hq]at hr hk;injection hr with e1 e2;injection hk with e3 e4;exact⟨e1.symm.trans e3,e2.symm⟩
  ·rw[Ae hq]at hk;injection hk with e3 e4;rw[<-e4]at h;cases h)
 have HF:Hid (k2=false->r1=[]/\r2=40):=ZQ (λh=>by
  by_cases hq:rightP p=true
  ·rw[Ai hq]at hk;injection hk with e3 e4;rw[<-e4]at h;cases h
  ·rw[Ae hq]at hr;injection hr with e1 e2;exact⟨e1.symm,e2.symm⟩)
 clear hr hk;have HPK:=ZQ hpk;have HFB:=ZQ hfb;have HHD:=ZQ hhd;have HAG:=ZQ h;have HLEN:Hid (hd.length<=2):=ZQ (by omega);have HL:=ZQ hl;clear hpk hfb hhd h hlen hl;go_enter func115,ntmps115;go_wp2_with fail;refine HHD.out.mono ?_;rintro e w1⟨⟨v,rfl,hown⟩,hb1⟩;have HO:=ZQ hown;have HB1:=ZQ hb1;clear hown hb1;go_wp2_with (first|(at_builtin;refine DL rfl (.tmp 12) (.tmp 13) rfl w.heap.size _ hd rfl HO.out a n c p rfl (HAG.out.at HB1.out).i HAG.out.nil HAG.out.l (by have:=HLEN.out;omega) HB1.out.size ?_;intro v2 w2 o2 hb2;obtain⟨a2,c2,rfl,hag2⟩:=OwnB.ag o2 HFB.out;have HB2:=ZQ (HB1.out.trans hb2);have HA2:=ZQ hag2;clear o2 hb2 hag2;generalize hgl:(hd++p).length=len2 at HA2⊢;have HGL:=ZQ hgl;clear hgl));have hk:=Xs a2 len2 c2 (hd++p) w2 HA2.out (by have h1:=HGL.out;rw[Ab,HL.out]at h1;have:=HLEN.out;omega);rw[HPK.out]at hk;simp only at hk;have HK:=ZQ hk;clear hk;cases k2 with
 |true=>
  obtain⟨rfl,rfl⟩:=HT.out rfl;refine HK.out.mono ?_;rintro e w3⟨⟨a3,m3,rfl,hag3⟩,hb3⟩;have HA3:=ZQ hag3;have HB3:=ZQ (HB2.out.trans (hb3.mono HB2.out.size));clear hag3 hb3;go_wp2_with fail;go_ret2;exact⟨⟨a3,m3,rfl,HA3.out⟩,HB3.out⟩
 |false=>
  obtain⟨rfl,rfl⟩:=HF.out rfl;refine HK.out.mono ?_;rintro e w3⟨⟨a3,m3,rfl,hag3⟩,hb3⟩;have HB3:=ZQ (HB2.out.trans (hb3.mono HB2.out.size));clear hag3 hb3;go_wp2_with fail;go_ret2;exact⟨⟨none,0,rfl,ag_nil _⟩,HB3.out⟩
end Go.Proofs.YtefhepcplempkaaGreat.Ni
