/- What lengthIn answers. -/
import Derived.Test.YtefhepcplempkaaGreatAK
import Derived.Test.YtefhepcplempkaaGreatG03
import Derived.Test.YtefhepcplempkaaGreatG04
set_option linter.unusedVariables false
set_option maxRecDepth 100000
set_option maxHeartbeats 2000000
open Go.Proofs.Tryz Go.RowKit
namespace Go.Proofs.YtefhepcplempkaaGreat
variable {w w' : World} {g n c k base m : Nat} {b r : List Int} {P : Nat → Prop} {a : Option Addr} {ys : List V} {ts : List T} {fn : Func} {p u : Tmp} {deep : Bool} {x : Int}
theorem Jp(a:Option Addr)(n c k:Nat)(b:List Int)(w:World)(h:Ag w a n c b)(hk:1<=k)(hk8:k<=8)(hn:n<=4611686018427387904):
 Calls prog 160 #[.slice a n c, .int .i64 k] w λe w'=>e= .returned (.tuple #[.int .i64 ((lenIn b k).1:Nat), .int .i64 ((lenIn b k).2:Nat)])/\Below w.heap.size w w':=by
 have hl:=h.l;obtain⟨r,hr⟩:∃r,lenIn b k=r:=⟨_,rfl⟩;rw[hr];unfold lenIn at hr;by_cases h3:3<k
 ·rw[Ai h3]at hr;subst hr;have h3i:(3:Int)<k:=by omega
  clear h;go_enter func160,ntmps160;go_wp2_with fail;go_ret2;exact⟨rfl,Ak _ _⟩
 rw[Ae h3]at hr;have h3i:¬(3:Int)<k:=by omega
 by_cases h4:b.length<k
 ·rw[Ai h4]at hr;subst hr;have h4i:(n:Int)<k:=by omega
  clear h;go_enter func160,ntmps160;go_wp2_with fail;go_ret2;exact⟨rfl,Ak _ _⟩
 rw[Ae h4]at hr;have h4i:¬(n:Int)<k:=by omega
 obtain⟨g,off,rfl,hc1,hc2,hc⟩:=ag_head h (by omega);unfold maxLen at hc2;have HR:=ZQ hr;have HC:=ZQ hc;have HB:=ZQ h.b;have HL:=ZQ hl;have hc0:=hc 0 (by omega);rw[CD]at hc0;have hkc:k<=c:=by omega
 clear h hr hc hl h4;go_enter func160,ntmps160;go_wp2_with fail
 go_loopw [6,19] (λq i v=>∃j:Nat,j<=k/\i= .int .i64 j/\q= .int .i64 (val (b.take j):Nat)/\v=w) (λ_ i _=>k-(intOf i).toNat)
 case atStart=>exact⟨0,by omega,rfl,rfl,rfl⟩
 case round=>
  obtain⟨j,hj,rfl,rfl,rfl⟩:=hrel;by_cases hlt:j<k
  ·have hcell:=HC.out j (by omega);have hb2:=HB.out;have hl:=HL.out;obtain⟨v1,v2⟩:=DN hb2 (j:=j) (by omega) (by omega);have v3:=DN hb2 (j:=j+1) (by omega) (by omega);have hx:=hb2 (b.getD j 0) (by rw[List.getD,Ac (by omega)];exact Bw _);have hvs:=L0 (b:=b) (j:=j) (by omega);obtain⟨q,hq⟩:∃q,val (b.take j)=q:=⟨_,rfl⟩;obtain⟨x,hxx⟩:∃x,b.getD j 0=x:=⟨_,rfl⟩;rw[hq]at v1 hvs⊢;rw[hxx]at hcell hx hvs;obtain⟨hx0,hx1⟩:=hx;rw[hvs]at v3;have hq2:q<65536:=(by omega);have HV:=ZQ hvs;have hji:(j:Int)<k:=(by omega);have hor:bits BinOp.or IntKind.i64 ((q:Int)*256) x=(q:Int)*256+x:=by
    refine bits_join .i64 40 (by decide) (λn a b=>by rw[IntKind.wrap_i64];omega) 8 _ _ (by omega) (by omega) (by omega) hx0 (by omega) (by omega)
   clear hvs hb2 hl v1 v2 v3 hq hxx;go_wp2_with fail;refine⟨⟨j+1,by omega,by simp,?_,trivial⟩,?_⟩
   ·rw[HV.out];simp;omega
   ·simp[intOf];omega
  ·have hjk:j=k:=(by omega);subst hjk;have hji:¬(j:Int)<j:=(by omega);obtain⟨v1,v2⟩:=DN HB.out (j:=j) (by have:=HL.out;omega) (by omega);have hh:b.headD 0=b.getD 0 0:=(by cases b<;>rfl);have hr:=HR.out;rw[hh]at hr;have hx:=HB.out (b.getD 0 0) (by rw[List.getD,Ac (by have:=HL.out;omega)];exact Bw _);obtain⟨q,hq⟩:∃q,val (b.take j)=q:=⟨_,rfl⟩;obtain⟨x,hxx⟩:∃x,b.getD 0 0=x:=⟨_,rfl⟩;rw[hq]at v1 hr⊢;rw[hxx]at hc0 hr hx;clear hq hxx hh;by_cases hx0:x=0
   ·subst hx0;rw[Ai (.inl rfl)]at hr;subst hr;clear hx;go_wp2_with fail;go_ret2;exact⟨rfl,Ak _ _⟩
   ·have hxb:(x==0)=false:=(by simp[hx0]);by_cases hq5:q<=55
    ·rw[Ai (.inr hq5)]at hr;subst hr;have hqi:(q:Int)<=55:=(by omega);go_wp2_with fail;go_ret2;exact⟨rfl,Ak _ _⟩
    ·rw[Ae (by intro h;rcases h with h|h;exact hx0 h;exact hq5 h)]at hr;subst hr;have hqi:¬(q:Int)<=55:=(by omega);go_wp2_with fail;go_ret2;exact⟨rfl,Ak _ _⟩
def HR.f:HR->Nat| .bad _=>0| .ok f _=>f
def HR.t:HR->Nat| .bad _=>0| .ok _ t=>t
def HR.e:HR->Nat| .bad e=>e| .ok _ _=>0
theorem ag_drop{off:Nat}(h:Ag w (some ⟨g,off,none⟩) n c b)(hk:k<=n):Ag w (if c=k then some ⟨g,off,none⟩else some ⟨g,off+k,none⟩) (n-k) (c-k) (b.drop k):=by
 have hl:=h.l;refine⟨?_,?_,by rw[AQ,hl],λx hx=>h.b x (BF hx)⟩
 ·by_cases h0:n-k=0
  ·exact .inl ⟨h0,Bq (by omega)⟩
  ·rcases h.i with⟨h1,_⟩|⟨g',off',h1,h2,h3,h4,h5,h6⟩
   ·omega
   ·cases h1;refine .inr ⟨g,off+k,Ae (by omega),by rw[AQ,hl],by omega,by omega,by omega,λj hj=>?_⟩;rw[AQ]at hj;have:=h6 (k+j) (by omega);rw[Cz,this];simp[List.getD]
 ·intro hh;split at hh<;>cases hh
theorem LA(g off n c d k:Nat)(x:Int)(r:List Int)(w:World)(hcell:w.cell? ⟨g,off,none⟩=some (.int .u8 x))(hx0:0<=x)(hx1:x<256)(hbig:192<=x)(hd8:((d:Int)==8)=false)(h128:¬x<128)(hc1:n<=c)(hc2:c<=2^63-1)(hn:n<=4611686018427387904)
 (hl:r.length+1=n) (hdr:Ag w (if c=1 then some ⟨g,off,none⟩else some ⟨g,off+1,none⟩) (n-1) (c-1) r) (h5:55<x-192) (hk:x-192-55=(k:Int)) (R:HR)
 (hR:(if(lenIn r k).2≠0 then HR.bad (lenIn r k).2 else if r.length+1-(1+k)<(lenIn r k).1 then HR.bad 22 else HR.ok (1+k) (1+k+(lenIn r k).1))=R):
 Calls prog 158 #[.slice (some ⟨g,off,none⟩) n c, .int .i64 d] w λe w'=>e= .returned (.tuple #[.int .i64 (R.f:Nat), .int .i64 (R.t:Nat), .int .i64 (R.e:Nat)])/\Below w.heap.size w w':=by
 have hn0:((n:Int)==0)=false:=by simp;omega
 have hn1:0<n:=by omega
 have hn2:(0:Int)<n:=by omega
 have hk1:1<=k:=by omega
 have hk8:k<=8:=by omega
 have hL1:=@Ia r k;have hcal:=Jp _ (n-1) (c-1) k r w hdr hk1 hk8 (by omega);obtain⟨L,hL⟩:∃L,lenIn r k=L:=⟨_,rfl⟩;obtain⟨L1,L2⟩:=L;rw[hL]at hR hL1 hcal;simp only at hR hL1 hcal;have hvb:L2=0->L1<16777216:=λh0=>by
  obtain⟨a1,a2,_,_,a3⟩:=hL1 h0;rw[a3];obtain⟨v1,v2⟩:=DN hdr.b a2 a1;omega
 have hkn:L2=0->1+k<=n:=λh0=>by have:=(hL1 h0).2.1;omega
 have HV:=ZQ hvb;have HKN:=ZQ hkn;have HCAL:=ZQ hcal;have HRR:=ZQ hR;have HK:=ZQ hk;have HL:=ZQ hl;have h5':(55:Int)<x-192:=h5;clear hL1 hL hvb hkn hcal hR hk hl hdr h5;by_cases hc1':c=1
 ·subst hc1';have hn3:n=1:=by omega
  subst hn3;simp only[if_true,Cc]at HCAL;go_enter func158,ntmps158;go_wp2_with fail;rw[HK.out];refine HCAL.out.mono ?_;rintro e w1⟨rfl,hb⟩;have h0:L2≠0:=λh=>by have:=HKN.out h;omega
  ·have hr:=HRR.out;rw[Ai h0]at hr;have hee:((L2:Int) !=0)=true:=(by rw[BT];omega);subst hr;clear h0;go_wp2_with fail;go_ret3;exact⟨rfl,hb⟩
 ·rw[Ae hc1']at HCAL;go_enter func158,ntmps158;go_wp2_with fail;rw[HK.out];refine HCAL.out.mono ?_;rintro e w1⟨rfl,hb⟩;by_cases h0:L2=0
  ·have hv:=HV.out h0;have hkn:=HKN.out h0;have hr:=HRR.out;rw[Ae (by rw[h0];simp)]at hr;have hl:=HL.out;subst h0;rw[show((0:Nat):Int)=0 from rfl];by_cases h6:r.length+1-(1+k)<L1
   ·rw[Ai h6]at hr;have h7:(n:Int)-(1+k)<L1:=(by omega);subst hr;clear hl h6;go_wp2_with fail;go_ret3;exact⟨rfl,hb⟩
   ·rw[Ae h6]at hr;have h7:¬(n:Int)-(1+k)<L1:=(by omega);subst hr;clear hl h6;go_wp2_with fail;go_ret3;exact⟨by simp[HR.f,HR.t,HR.e],hb⟩
  ·have hr:=HRR.out;rw[Ai h0]at hr;have hee:((L2:Int) !=0)=true:=(by rw[BT];omega);subst hr;clear h0;go_wp2_with fail;go_ret3;exact⟨rfl,hb⟩
theorem LC(g off n c d k:Nat)(x:Int)(r:List Int)(w:World)(hcell:w.cell? ⟨g,off,none⟩=some (.int .u8 x))(hx0:0<=x)(hx1:x<256)(hbig:¬192<=x)(h128:¬x<128)(hc1:n<=c)(hc2:c<=2^63-1)(hn:n<=4611686018427387904)
 (hl:r.length+1=n) (hdr:Ag w (if c=1 then some ⟨g,off,none⟩else some ⟨g,off+1,none⟩) (n-1) (c-1) r) (h5:55<x-128) (hk:x-128-55=(k:Int)) (R:HR)
 (hR:(if(lenIn r k).2≠0 then HR.bad (lenIn r k).2 else if r.length+1-(1+k)<(lenIn r k).1 then HR.bad 22 else HR.ok (1+k) (1+k+(lenIn r k).1))=R):
 Calls prog 158 #[.slice (some ⟨g,off,none⟩) n c, .int .i64 d] w λe w'=>e= .returned (.tuple #[.int .i64 (R.f:Nat), .int .i64 (R.t:Nat), .int .i64 (R.e:Nat)])/\Below w.heap.size w w':=by
 have hn0:((n:Int)==0)=false:=by simp;omega
 have hn1:0<n:=by omega
 have hn2:(0:Int)<n:=by omega
 have hk1:1<=k:=by omega
 have hk8:k<=8:=by omega
 have hL1:=@Ia r k;have hcal:=Jp _ (n-1) (c-1) k r w hdr hk1 hk8 (by omega);obtain⟨L,hL⟩:∃L,lenIn r k=L:=⟨_,rfl⟩;obtain⟨L1,L2⟩:=L;rw[hL]at hR hL1 hcal;simp only at hR hL1 hcal;have hvb:L2=0->L1<16777216:=λh0=>by
  obtain⟨a1,a2,_,_,a3⟩:=hL1 h0;rw[a3];obtain⟨v1,v2⟩:=DN hdr.b a2 a1;omega
 have hkn:L2=0->1+k<=n:=λh0=>by have:=(hL1 h0).2.1;omega
 have HV:=ZQ hvb;have HKN:=ZQ hkn;have HCAL:=ZQ hcal;have HRR:=ZQ hR;have HK:=ZQ hk;have HL:=ZQ hl;have h5':(55:Int)<x-128:=h5;clear hL1 hL hvb hkn hcal hR hk hl hdr h5;by_cases hc1':c=1
 ·subst hc1';have hn3:n=1:=by omega
  subst hn3;simp only[if_true,Cc]at HCAL;go_enter func158,ntmps158;go_wp2_with fail;rw[HK.out];refine HCAL.out.mono ?_;rintro e w1⟨rfl,hb⟩;have h0:L2≠0:=λh=>by have:=HKN.out h;omega
  ·have hr:=HRR.out;rw[Ai h0]at hr;have hee:((L2:Int) !=0)=true:=(by rw[BT];omega);subst hr;clear h0;go_wp2_with fail;go_ret3;exact⟨rfl,hb⟩
 ·rw[Ae hc1']at HCAL;go_enter func158,ntmps158;go_wp2_with fail;rw[HK.out];refine HCAL.out.mono ?_;rintro e w1⟨rfl,hb⟩;by_cases h0:L2=0
  ·have hv:=HV.out h0;have hkn:=HKN.out h0;have hr:=HRR.out;rw[Ae (by rw[h0];simp)]at hr;have hl:=HL.out;subst h0;rw[show((0:Nat):Int)=0 from rfl];by_cases h6:r.length+1-(1+k)<L1
   ·rw[Ai h6]at hr;have h7:(n:Int)-(1+k)<L1:=(by omega);subst hr;clear hl h6;go_wp2_with fail;go_ret3;exact⟨rfl,hb⟩
   ·rw[Ae h6]at hr;have h7:¬(n:Int)-(1+k)<L1:=(by omega);subst hr;clear hl h6;go_wp2_with fail;go_ret3;exact⟨by simp[HR.f,HR.t,HR.e],hb⟩
  ·have hr:=HRR.out;rw[Ai h0]at hr;have hee:((L2:Int) !=0)=true:=(by rw[BT];omega);subst hr;clear h0;go_wp2_with fail;go_ret3;exact⟨rfl,hb⟩
theorem IP(a:Option Addr)(n c d:Nat)(b:List Int)(w:World)(h:Ag w a n c b)(hd:d<=8)(hn:n<=4611686018427387904):
 Calls prog 158 #[.slice a n c, .int .i64 d] w λe w'=>e= .returned (.tuple #[.int .i64 ((hdr (decide (d=8)) b).f:Nat), .int .i64 ((hdr (decide (d=8)) b).t:Nat), .int .i64 ((hdr (decide (d=8)) b).e:Nat)])/\Below w.heap.size w w':=by
 have hl:=h.l;cases b with
 |nil=>
  simp at hl;subst hl;clear h;go_enter func158,ntmps158;go_wp2_with fail;go_ret3;exact⟨rfl,Ak _ _⟩
 |cons x r=>
  simp only[AU]at hl;obtain⟨g,off,rfl,hc1,hc2,hc⟩:=ag_head h (by omega);unfold maxLen at hc2;have hcell:=hc 0 (by omega);simp only[CD,List.getD_cons_zero]at hcell;obtain⟨hx0,hx1⟩:=h.b x (by simp);have hn0:((n:Int)==0)=false:=by simp;omega
  have hn1:0<n:=by omega
  have hn2:(0:Int)<n:=by omega
  have hdrop:=ag_drop h (k:=1) (by omega);simp only[List.drop_succ_cons,Cw]at hdrop;obtain⟨R,hR⟩:∃R,hdr (decide (d=8)) (x::r)=R:=⟨_,rfl⟩;rw[hR];simp only[hdr,AU]at hR;have HDR:=ZQ hdrop;have HL:=ZQ hl;clear h hc hdrop;by_cases h1:192<=x/\d=8
  ·obtain⟨h1,rfl⟩:=h1;rw[Ai ⟨h1,by simp⟩]at hR;subst hR;clear hl;go_enter func158,ntmps158;go_wp2_with fail;go_ret3;exact⟨rfl,Ak _ _⟩
  rw[Ae (by simpa using h1)]at hR;by_cases h2:x<128
  ·rw[Ai h2]at hR;subst hR;have h3:¬192<=x:=(by omega);clear hl h1;go_enter func158,ntmps158;go_wp2_with fail;go_ret3;exact⟨rfl,Ak _ _⟩
  rw[Ae h2]at hR;by_cases hbig:192<=x
  ·have hd8:((d:Int)==8)=false:=(by simp;simp[hbig]at h1;omega);have hnof:nOf x=(x-192).toNat:=(by unfold nOf;rw[Ai hbig]);rw[hnof]at hR;by_cases h5:55<(x-192).toNat
   ·obtain⟨k,hk⟩:∃k:Nat,x-192-55=(k:Int):=⟨(x-192-55).toNat,by omega⟩;rw[Ai h5,show(x-192).toNat-55=k from by omega]at hR;exact LA g off n c d k x r w hcell hx0 hx1 hbig hd8 h2 hc1 hc2 hn hl HDR.out (by omega) hk R hR
   ·obtain⟨m,hm⟩:∃m:Nat,x-192=(m:Int):=⟨(x-192).toNat,by omega⟩;rw[Ae h5,show(x-192).toNat=m from by omega]at hR;have hm6:¬(55:Int)<x-192:=(by omega);have HM:=ZQ hm;by_cases h6:r.length+1-1<m
    ·rw[Ai h6]at hR;subst hR;have h7:(n:Int)-1<x-192:=(by omega);clear hnof h5 hl h1 hm h6;go_enter func158,ntmps158;go_wp2_with fail;go_ret3;exact⟨rfl,Ak _ _⟩
    ·rw[Ae h6]at hR;subst hR;have h7:¬(n:Int)-1<x-192:=(by omega);clear hnof h5 hl h1 hm h6;go_enter func158,ntmps158;go_wp2_with fail;go_ret3;exact⟨by simp[HR.f,HR.t,HR.e,HM.out],Ak _ _⟩
  ·have hd9:128<=x:=(by omega);have hnof:nOf x=(x-128).toNat:=(by unfold nOf;rw[Ae hbig]);rw[hnof]at hR;by_cases h5:55<(x-128).toNat
   ·obtain⟨k,hk⟩:∃k:Nat,x-128-55=(k:Int):=⟨(x-128-55).toNat,by omega⟩;rw[Ai h5,show(x-128).toNat-55=k from by omega]at hR;exact LC g off n c d k x r w hcell hx0 hx1 hbig h2 hc1 hc2 hn hl HDR.out (by omega) hk R hR
   ·obtain⟨m,hm⟩:∃m:Nat,x-128=(m:Int):=⟨(x-128).toNat,by omega⟩;rw[Ae h5,show(x-128).toNat=m from by omega]at hR;have hm6:¬(55:Int)<x-128:=(by omega);have HM:=ZQ hm;by_cases h6:r.length+1-1<m
    ·rw[Ai h6]at hR;subst hR;have h7:(n:Int)-1<x-128:=(by omega);clear hnof h5 hl h1 hm h6;go_enter func158,ntmps158;go_wp2_with fail;go_ret3;exact⟨rfl,Ak _ _⟩
    ·rw[Ae h6]at hR;subst hR;have h7:¬(n:Int)-1<x-128:=(by omega);clear hnof h5 hl h1 hm h6;go_enter func158,ntmps158;go_wp2_with fail;go_ret3;exact⟨by simp[HR.f,HR.t,HR.e,HM.out],Ak _ _⟩
mutual
def LiesP(P:Nat->Prop)(w:World):T->V->Prop
 | .mk l bs its,x=>(x.l=l/\Ag w x.ba x.bn x.bc bs/\x.m=its.length/\x.m<=x.ic/\x.ic<=maxLen/\(x.bn<=140737488351232/\x.m<=140737488351232)/\(∀g off,x.ba=some ⟨g,off,none⟩->0<x.bn->P g/\∀o,w.frozen? ⟨g,o,none⟩=false))/\LiesPAll P w its x.ia 0
def LiesPAll(P:Nat->Prop)(w:World):List T->Option Addr->Nat->Prop
 |[],_,_=>True
 |t::r,a,k=>(∃g off y,(a=some ⟨g,off,none⟩/\P g)/\w.cell? ⟨g,off+k*3,none⟩=some (.bool y.l)/\w.cell? ⟨g,off+k*3+1,none⟩=some (.slice y.ba y.bn y.bc)/\w.cell? ⟨g,off+k*3+2,none⟩=some (.slice y.ia y.m y.ic)/\LiesP P w t y)/\LiesPAll P w r a (k+1)
end
theorem liesP_eq{l:Bool}{bs:List Int}{its:List T}{x:V}:LiesP P w (.mk l bs its) x↔((x.l=l/\Ag w x.ba x.bn x.bc bs/\x.m=its.length/\x.m<=x.ic/\x.ic<=maxLen/\(x.bn<=140737488351232/\x.m<=140737488351232)/\(∀g off,x.ba=some ⟨g,off,none⟩->0<x.bn->P g/\∀o,w.frozen? ⟨g,o,none⟩=false))/\LiesPAll P w its x.ia 0):=by rw[LiesP]
theorem liesPAll_cons{t:T}{r:List T}:LiesPAll P w (t::r) a k↔((∃g off y,(a=some ⟨g,off,none⟩/\P g)/\w.cell? ⟨g,off+k*3,none⟩=some (.bool y.l)/\w.cell? ⟨g,off+k*3+1,none⟩=some (.slice y.ba y.bn y.bc)/\w.cell? ⟨g,off+k*3+2,none⟩=some (.slice y.ia y.m y.ic)/\LiesP P w t y)/\LiesPAll P w r a (k+1)):=by rw[LiesPAll]
theorem D9:LiesPAll P w [] a k:=by rw[LiesPAll];trivial
theorem Gx{P:Nat->Prop}{w:World}{a:Option Addr}:∀{its:List T}{k:Nat},(∀t∈its,∀x,LiesP P w t x->Lies w t x)->LiesPAll P w its a k->LiesAll w its a k
 |[],_,_,_=>DD
 |t::r,k,ih,h=>by
  obtain⟨⟨g,off,y,⟨h1,_⟩,h2,h3,h4,h5⟩,hr⟩:=liesPAll_cons.1 h;exact liesAll_cons.2 ⟨⟨g,off,y,h1,h2,h3,h4,ih t (BY ..) y h5⟩,Gx (λu hu=>ih u (AN _ hu)) hr⟩
theorem Dj:∀t,∀x,LiesP P w t x->Lies w t x:=by
 refine T.ind λl bs its ih x h=>?_;obtain⟨⟨h1,h2,h3,h4,h5,h6,_⟩,h7⟩:=liesP_eq.1 h;exact lies_eq.2 ⟨h1,h2,h3,h4,h5,h6,Gx ih h7⟩
theorem KY{bs:List Int}(h:Ag w a n c bs)(hk:∀g off,a=some ⟨g,off,none⟩->0<n->g<w.heap.size->w'.heap[g]?=w.heap[g]?):Ag w' a n c bs:=by
 refine⟨?_,h.nil,h.l,h.b⟩;rcases h.i with h0|⟨g,off,h1,h2,h3,h4,h5,h6⟩
 ·exact .inl h0
 ·refine .inr ⟨g,off,h1,h2,h3,h4,h5,λj hj=>?_⟩;have:=h6 j hj;exact(Ay (w:=w) (hk g off h1 h3 (Af this))).trans this
theorem DU{P Q:Nat->Prop}{w w':World}{a:Option Addr}(hk:∀b,P b->b<w.heap.size->w'.heap[b]?=w.heap[b]?/\Q b):∀{its:List T}{k:Nat},(∀t∈its,∀x,LiesP P w t x->LiesP Q w' t x)->LiesPAll P w its a k->LiesPAll Q w' its a k
 |[],_,_,_=>D9
 |t::r,k,ih,h=>by
  obtain⟨⟨g,off,y,⟨h1,hp⟩,h2,h3,h4,h5⟩,hr⟩:=liesPAll_cons.1 h;have hb:=hk g hp (Af h2);refine liesPAll_cons.2 ⟨⟨g,off,y,⟨h1,hb.2⟩,?_,?_,?_,ih t (BY ..) y h5⟩,DU hk (λu hu=>ih u (AN _ hu)) hr⟩
  ·exact(Ay (w:=w) hb.1).trans h2
  ·exact(Ay (w:=w) hb.1).trans h3
  ·exact(Ay (w:=w) hb.1).trans h4
theorem B6{Q:Nat->Prop}(hk:∀b,P b->b<w.heap.size->w'.heap[b]?=w.heap[b]?/\Q b):∀t,∀x,LiesP P w t x->LiesP Q w' t x:=by
 refine T.ind λl bs its ih x h=>?_;obtain⟨⟨h1,h2,h3,h4,h5,h6,h8⟩,h7⟩:=liesP_eq.1 h;refine liesP_eq.2 ⟨⟨h1,KY h2 (λg off e1 e2 e3=>(hk g (h8 g off e1 e2).1 e3).1),h3,h4,h5,h6,λg off e1 e2=>?_⟩,DU hk ih h7⟩;obtain⟨g',off',e3,_,_,hc⟩:=ag_head h2 e2;rw[e1]at e3;cases e3;have hkk:=hk g (h8 g off e1 e2).1 (Af (hc 0 e2));exact⟨hkk.2,λo=>(BM (w:=w) hkk.1).trans ((h8 g off e1 e2).2 o)⟩
def V.cells(y:V):List Value:=[.bool y.l, .slice y.ba y.bn y.bc, .slice y.ia y.m y.ic]
def OwnI(w:World)(base:Nat)(v:Value)(ys:List V):Prop:=w.ownsRow base 109 3 v ys.length (ys.flatMap V.cells)
theorem G5(ys:List V):(ys.flatMap V.cells).length=ys.length*3:=by
 induction ys with
 |nil=>rfl
 |cons y r ih=>rw[Cm,Ab,ih];simp[V.cells];omega
theorem Yl:∃i,prog.info? 109=some i/\i.zero=some (.agg #[.bool false, .slice none 0 0, .slice none 0 0])/\i.size=3/\i.bytes=56:=by
 have h:(prog.info? 109).map (λi=>(i.zero,i.size,i.bytes))=some (some (.agg #[.bool false, .slice none 0 0, .slice none 0 0]),3,56):=by kernel_rfl
 cases hq:prog.info? 109 with
 |none=>rw[hq]at h;simp at h
 |some i=>rw[hq]at h;simp at h;exact⟨i,rfl,h.1,h.2.1,h.2.2⟩
theorem JV(y:V):∀u∈V.cells y,u.oneCell'=true:=by
 intro u hu;simp[V.cells]at hu;rcases hu with rfl|rfl|rfl<;>rfl
theorem Jq{v:Value}(hown:OwnI w base v ys)(y:V)(ad:Addr)(c:Nat)(hnews:∀j u,(V.cells y)[j]?=some u->w.cell? (ad.add j)=some u)(hbase:base<=w.heap.size)(hlen:ys.length<=1000000000)(ty:TypeId):
 ∃v' w',(Builtin.append_ #[107,107] ty #[v, .slice (some ad) 1 c]).run prog w= .ok v' w'/\OwnI w' base v' (ys++[y])/\w.grownBy w' v.ownBlock/\(v'.ownBlock=v.ownBlock∨v'.ownBlock=some w.heap.size):=by
 obtain⟨i,hi,hz,hsz,hby⟩:=Yl;obtain⟨v',w',hrun,hown',hgr,_⟩:=run_append_own (P:=prog) w base 107 ty 109 i _ 3 56 underlying107 hi hz hsz hby rfl (by decide) v ys.length (ys.flatMap V.cells) hown ad 1 c (V.cells y) rfl hnews (JV y) (by unfold maxLen;omega) (by omega) hbase;refine⟨v',w',hrun,?_,hgr,?_⟩
 ·unfold OwnI;rw[Ca,Ab];simpa using hown'
 ·rcases hown.2 with⟨rfl,hn0⟩|⟨g,cap,cur,rfl,hbg,hg,hnc,hcm,hcs,htake⟩
  ·have hr:=run_append_nil (P:=prog) w 107 ty 109 i _ underlying107 hi hz ad 1 c (V.cells y) (by rw[hsz];rfl) hnews (by decide) (by decide) (by rw[hby];decide);rw[hrun]at hr;injection hr with e1 e2;right;rw[e1];rfl
  ·by_cases hroom:ys.length+1<=cap
   ·have hr:=run_append_room (P:=prog) w 107 ty 109 i underlying107 hi g ys.length cap cur hg ad 1 c (V.cells y) (by rw[hsz];rfl) hnews (JV y) hroom (by rw[hcs,hsz];simp[V.cells];omega);rw[hrun]at hr;injection hr with e1 e2;left;rw[e1];rfl
   ·have hr:=run_append_grow (P:=prog) w 107 ty 109 i _ underlying107 hi hz ⟨g,0,none⟩ ys.length cap (ys.flatMap V.cells) (by rw[hsz,G5]) (DZ hown (g:=g) rfl) ad 1 c (V.cells y) (by rw[hsz];rfl) hnews (by omega) (by omega) (growslice_fits (by omega) (by rw[hby];omega));rw[hrun]at hr;injection hr with e1 e2;right;rw[e1];rfl
def AllP(P:Nat->Prop)(w:World):List T->List V->Prop
 |[],[]=>True
 |t::ts,y::ys=>LiesP P w t y/\AllP P w ts ys
 |_,_=>False
theorem AllP.len{P:Nat->Prop}{w:World}:∀{ts:List T}{ys:List V},AllP P w ts ys->ts.length=ys.length
 |[],[],_=>rfl
 |t::ts,y::ys,h=>by have:=AllP.len h.2;simp[this]
theorem AllP.mono{P Q:Nat->Prop}{w w':World}(hk:∀b,P b->b<w.heap.size->w'.heap[b]?=w.heap[b]?/\Q b):∀{ts:List T}{ys:List V},AllP P w ts ys->AllP Q w' ts ys
 |[],[],_=>trivial
 |t::ts,y::ys,h=>⟨B6 hk t y h.1,AllP.mono hk h.2⟩
theorem AllP.snoc{P:Nat->Prop}{w:World}{t:T}{y:V}(h1:LiesP P w t y):∀{ts:List T}{ys:List V},AllP P w ts ys->AllP P w (ts++[t]) (ys++[y])
 |[],[],_=>⟨h1,trivial⟩
 |_::ts,_::ys,h=>⟨h.1,AllP.snoc h1 h.2⟩
theorem FC(pre:List V)(y:V)(ys:List V)(j:Nat)(u:Value)(h:(V.cells y)[j]?=some u):((pre++y::ys).flatMap V.cells)[pre.length*3+j]?=some u:=by
 rw[Ca,AS (by rw[G5];omega),G5,Nat.add_sub_cancel_left,Cm,AV (Aw.1 h).1,h]
theorem OJ{P:Nat->Prop}{w:World}{g:Nat}{all:List V}(hc:∀j u,(all.flatMap V.cells)[j]?=some u->w.cell? ((⟨g,0,none⟩:Addr).add j)=some u)(hP:P g):
 ∀(ts:List T)(ys pre:List V),all=pre++ys->AllP P w ts ys->LiesPAll P w ts (some ⟨g,0,none⟩) pre.length
 |[],[],pre,_,_=>D9
 |t::ts,y::ys,pre,e,h=>by
  have hr:=OJ hc hP ts ys (pre++[y]) (by rw[e];simp) h.2;rw[Ab]at hr;refine liesPAll_cons.2 ⟨⟨g,0,y,⟨rfl,hP⟩,?_,?_,?_,h.1⟩,hr⟩
  ·have:=hc (pre.length*3+0) (.bool y.l) (by rw[e];exact FC pre y ys 0 _ rfl);rw[BO]at this;simpa using this
  ·have:=hc (pre.length*3+1) (.slice y.ba y.bn y.bc) (by rw[e];exact FC pre y ys 1 _ rfl);rw[BO]at this;rw[show 0+pre.length*3+1=0+(pre.length*3+1)from by omega];exact this
  ·have:=hc (pre.length*3+2) (.slice y.ia y.m y.ic) (by rw[e];exact FC pre y ys 2 _ rfl);rw[BO]at this;rw[show 0+pre.length*3+2=0+(pre.length*3+2)from by omega];exact this
theorem LD{v:Value}(hown:OwnI w base v ys)(h:AllP P w ts ys)(hP:∀g,v.ownBlock=some g->P g):
 ∃ia ic,v= .slice ia ts.length ic/\ts.length<=ic/\ic<=maxLen/\LiesPAll P w ts ia 0:=by
 have hl:=h.len;rcases hown.2 with⟨rfl,hn0⟩|⟨g,cap,cur,rfl,hbg,hg,hnc,hcm,hcs,htake⟩
 ·have:ts=[]:=A3 (by omega);subst this;exact⟨none,0,rfl,Aa _,by unfold maxLen;omega,D9⟩
 ·exact⟨some ⟨g,0,none⟩,cap,by rw[hl],by omega,hcm,OJ (DZ hown (g:=g) rfl) (hP g rfl) ts ys [] rfl h⟩
theorem EI(h:fn.results=#[.cell p 109, .tmp u])(tmps:Array Value)(w:World)(g:Nat)(a b c:Value)
 (hp:tmps.getD p undef= .pointer (some ⟨g,0,none⟩)) (hg:w.heap[g]?=some (.cells #[a,b,c] 109)):
 (results fn tmps).run prog w= .ok (.tuple #[.agg #[a,b,c],tmps.getD u undef]) w:=by
 have hp':tmps[p]?.getD undef= .pointer (some ⟨g,0,none⟩):=by simpa using hp
 simp[results,h,hp',asAddr,C9 (P:=prog) w g 109 109 #[a,b,c] (0,0) _ hg underlying109 rfl (by kernel_rfl)]
theorem Bi{v:Tmp}(h:fn.results=#[.cell p 109, .tmp u, .tmp v])(tmps:Array Value)(w:World)(g:Nat)(a b c:Value)
 (hp:tmps.getD p undef= .pointer (some ⟨g,0,none⟩)) (hg:w.heap[g]?=some (.cells #[a,b,c] 109)):
 (results fn tmps).run prog w= .ok (.tuple #[.agg #[a,b,c],tmps.getD u undef,tmps.getD v undef]) w:=by
 have hp':tmps[p]?.getD undef= .pointer (some ⟨g,0,none⟩):=by simpa using hp
 simp[results,h,hp',asAddr,C9 (P:=prog) w g 109 109 #[a,b,c] (0,0) _ hg underlying109 rfl (by kernel_rfl)]
theorem put3{t:Nat}{x0 x1 x2:Value}(h:w.heap[g]?=some (.cells #[x0,x1,x2] t))(a b c:Value):
 (((w.setCell ⟨g,0,none⟩ a).setCell ⟨g,1,none⟩ b).setCell ⟨g,2,none⟩ c).heap[g]?=some (.cells #[a,b,c] t):=by
 have h1:=AX w g 0 _ t a h;have h2:=AX _ g 1 _ t b h1;have h3:=AX _ g 2 _ t c h2;simpa using h3
theorem D3(hk:k≠g)(a b c:Value):(((w.setCell ⟨g,0,none⟩ a).setCell ⟨g,1,none⟩ b).setCell ⟨g,2,none⟩ c).heap[k]?=w.heap[k]?:=by
 rw[AC _ _ _ _ hk,AC _ _ _ _ hk,AC _ _ _ _ hk]
theorem Ch{B:Nat}{w0:World}(h:Below B w0 w)(hg:B<=g)(a b c:Value):Below B w0 (((w.setCell ⟨g,0,none⟩ a).setCell ⟨g,1,none⟩ b).setCell ⟨g,2,none⟩ c):=
 ((h.setCell hg a).setCell hg b).setCell hg c
def z3:Array Value:=#[.bool false, .slice none 0 0, .slice none 0 0]
theorem FD(a:Option Addr)(n c:Nat)(b:List Int)(w:World)(h:Ag w a n c b)(hn:n<=140737488351232):
 Calls prog 61 #[.slice a n c] w λe w'=>e= .returned (.agg #[.bool false, .slice (some ⟨w.heap.size+1,0,none⟩) n n, .slice none 0 0])/\Row (w.heap.size+1) w' b/\Below w.heap.size w w':=by
 have hmk:=run_make_row' (P:=prog) 23 5 (.int .u8 0) 1 underlying23 info5b rfl .i64 .i64 n (by omega) (by omega);obtain⟨w0,hw0⟩:∃w0,w.alloc (.cells #[.bool false, .slice none 0 0, .slice none 0 0] 109)=w0:=⟨_,rfl⟩;have hs0:w0.heap.size=w.heap.size+1:=by rw[<-hw0];simp
 have hbw0:Below w.heap.size w w0:=by rw[<-hw0];exact(Ak _ _).alloc (Aa _) _
 have hres:w0.heap[w.heap.size]?=some (.cells #[.bool false, .slice none 0 0, .slice none 0 0] 109):=by rw[<-hw0];exact Aj _ _
 have hrow:Row w0.heap.size (w0.alloc (.cells (madeCells #[.int .u8 0] n) 5)) (List.replicate n 0):=by
  unfold Row;rw[Aj,made_bytes]
 have hbw:Below w.heap.size w (w0.alloc (.cells (madeCells #[.int .u8 0] n) 5)):=hbw0.alloc (by omega) _;obtain⟨w1,hrun,hrow1,ht⟩:=L6 (o:=0) (dl:=n) (dc:=n) (da:=some ⟨w0.heap.size,0,none⟩) hrow (h.at hbw) rfl (by simp) (λ_=>rfl);rw[BL,AL,AM,Bq (by simp),A4]at hrow1;have hres1:w1.heap[w.heap.size]?=some (.cells #[.bool false, .slice none 0 0, .slice none 0 0] 109):=(ht.block _ (by simp;omega) (by omega)).trans ((Az _ _ _ (by omega)).trans hres);have hb1:=Touch.below hbw ht (by omega) hbw.size;rw[hs0]at hrun hrow1;rw[<-hw0]at hrun;have HRUN:=ZQ hrun;have HROW:=ZQ hrow1;have HB:=ZQ hb1;have HRES:=ZQ hres1;have x0:w1.cell? ⟨w.heap.size,0,none⟩=some (.bool false):=by rw[Ad _ _ _ _ _ _ hres1];rfl
 have x1:w1.cell? ⟨w.heap.size,1,none⟩=some (.slice none 0 0):=by rw[Ad _ _ _ _ _ _ hres1];rfl
 have x2:w1.cell? ⟨w.heap.size,2,none⟩=some (.slice none 0 0):=by rw[Ad _ _ _ _ _ _ hres1];rfl
 have xf:∀o,w1.frozen? ⟨w.heap.size,o,none⟩=false:=λo=>AY _ _ _ _ _ hres1;clear hrow hrun hrow1 ht hbw h hw0 hs0 hbw0 hres hres1 hb1;go_enter func61,ntmps61;go_wp2_with (first|refine wpl_copy rfl _ _ rfl _ _ rfl rfl (HRUN.out _) ?_);have hr:=put3 HRES.out (.bool false) (.slice (some ⟨w.heap.size+1,0,none⟩) n n) (.slice none 0 0);refine Aq (Bg results61 _ _ w.heap.size 109 _ (0,0) _ rfl hr underlying109 rfl (by kernel_rfl)) rfl ?_;exact⟨rfl,(D3 (by omega) _ _ _).trans HROW.out,Ch HB.out (Aa _) _ _ _⟩
def lenOf:Value->Nat| .slice _ n _=>n|_=>0
theorem E6{w:World}{ops:Array Oper}{rest:List Oper}{o:Oper}{a:Act}{Q:Exit->Act->World->Prop}(hgd:o.guard=none)(s x:Operand)
 (ho:o.op= .call {callee:= .builtin .append,args:=#[s,x],argTypes:=#[107,107]}) (v u:Value) (hd:a.eval s=v) (hx:a.eval x=u) {v':Value} {w':World}
 (hr:(Builtin.append_ #[107,107] o.type #[v,u]).run prog w= .ok v' w') (h:wpList prog ops Q rest (a.put o.dst v') w'):wpList prog ops Q (o::rest) a w:=by
 refine wpList_plain hgd λK hK=>?_;unfold Oper.wp;simp[execOp,ho,resolve,invoke,builtin,hd,hx,hr,Result.andThen];exact hK _ _ h
def ReadPost(w:World)(r:R):Ending->World->Prop:=λe w'=>Below w.heap.size w w'/\
 match r with
 | .bad er=>e= .returned (.tuple #[.agg #[.bool false, .slice none 0 0, .slice none 0 0], .int .i64 0, .int .i64 (er:Nat)])/\er≠0
 | .ok t m=>∃y:V,e= .returned (.tuple #[.agg #[.bool y.l, .slice y.ba y.bn y.bc, .slice y.ia y.m y.ic], .int .i64 (m:Nat), .int .i64 0])/\LiesP (λb=>w.heap.size<=b) w' t y
def ReadSaid(k:Nat):Prop:=∀(a:Option Addr)(n c d:Nat)(b:List Int)(w:World),Ag w a n c b->d+k=8->n<=140737488351232->Calls prog 153 #[.slice a n c, .int .i64 d] w (ReadPost w (rd k b))
def AllPost(w:World)(r:RL):Ending->World->Prop:=λe w'=>Below w.heap.size w w'/\
 match r with
 | .bad er=>e= .returned (.tuple #[.slice none 0 0, .int .i64 (er:Nat)])/\er≠0
 | .ok ts=>∃ia ic,e= .returned (.tuple #[.slice ia ts.length ic, .int .i64 0])/\ts.length<=ic/\ic<=maxLen/\LiesPAll (λb=>w.heap.size<=b) w' ts ia 0
def RL.pre(ts:List T):RL->RL
 | .bad e=> .bad e
 | .ok us=> .ok (ts++us)
theorem RN(r:RL):RL.pre [] r=r:=by cases r<;>rfl
theorem OK{f:List Int->R}(hf:∀b t m,f b= .ok t m->1<=m){t:T}(hb:b≠[])(h:f b= .ok t m):RL.pre ts (rdAll f b.length b)=RL.pre (ts++[t]) (rdAll f (b.drop m).length (b.drop m)):=by
 have hm:=hf _ _ _ h;have hl:0<b.length:=Bx.2 hb;obtain⟨n,hn⟩:∃n,b.length=n+1:=⟨b.length-1,by omega⟩;rw[hn,G4 hb h,L4 hf n (b.drop m).length (b.drop m) (by rw[AQ];omega) (Aa _)];cases rdAll f (b.drop m).length (b.drop m)with
 |bad e=>rfl
 |ok us=>simp[RL.pre]
theorem Iy{f:List Int->R}(hf:∀b t m,f b= .ok t m->1<=m/\m<=b.length):∀n b ts,rdAll f n b= .ok ts->ts.length<=b.length
 |n,[],ts,h=>by rw[Fq]at h;cases h;simp
 |0,_::_,ts,h=>by cases h
 |n+1,x::b,ts,h=>by
  cases hx:f (x::b)with
  |bad e=>rw[FR (by simp) hx]at h;cases h
  |ok t m=>
   have hm:=hf _ _ _ hx;rw[G4 (by simp) hx]at h;cases hr:rdAll f n ((x::b).drop m)with
   |bad e=>rw[hr]at h;cases h
   |ok us=>
    rw[hr]at h;cases h;have:=Iy hf n _ us hr;rw[AQ]at this;simp only[AU]at*;omega
theorem Fs{v:Value}(h:OwnI w base v ys)(hg:v.ownBlock=some g):base<=g/\g<w.heap.size:=by
 rcases h.2 with⟨rfl,_⟩|⟨g',cap,cur,rfl,hbg,hh,_⟩
 ·cases hg
 ·cases hg;exact⟨hbg,lt_of_get hh⟩
theorem Em{v:Value}(h:OwnI w base v ys)(hk:∀g,v.ownBlock=some g->g<w.heap.size->w'.heap[g]?=w.heap[g]?):OwnI w' base v ys:=by
 refine⟨h.1,?_⟩;rcases h.2 with h2|⟨g,cap,cur,hv,hb,hh,r⟩
 ·exact .inl h2
 ·exact .inr ⟨g,cap,cur,hv,hb,(hk g (by rw[hv];rfl) (lt_of_get hh)).trans hh,r⟩
theorem LE{wr w1:World}{it:Value}{y:V}{t:T}(hown:OwnI wr w.heap.size it ys)(hall:AllP (λb=>w.heap.size<=b/\it.ownBlock≠some b) wr ts ys)(hbel:Below w.heap.size w wr)(hb1:Below wr.heap.size wr w1)
 (hy:LiesP (λb=>wr.heap.size<=b) w1 t y) (hlen:ys.length<=1000000000) (ty:TypeId):
 ∃v' w3,(Builtin.append_ #[107,107] ty #[it, .slice (some ⟨w1.heap.size+1,0,none⟩) 1 1]).run prog ((w1.alloc (.cells #[.bool y.l, .slice y.ba y.bn y.bc, .slice y.ia y.m y.ic] 109)).alloc (.cells #[.bool y.l, .slice y.ba y.bn y.bc, .slice y.ia y.m y.ic] 109))= .ok v' w3/\
  OwnI w3 w.heap.size v' (ys++[y])/\AllP (λb=>w.heap.size<=b/\v'.ownBlock≠some b) w3 (ts++[t]) (ys++[y])/\Below w.heap.size w w3:=by
 obtain⟨Y,hY⟩:∃Y:Obj,Obj.cells #[.bool y.l, .slice y.ba y.bn y.bc, .slice y.ia y.m y.ic] 109=Y:=⟨_,rfl⟩;rw[hY];have hs2:((w1.alloc Y).alloc Y).heap.size=w1.heap.size+2:=by simp
 have hb2:Below wr.heap.size wr ((w1.alloc Y).alloc Y):=(hb1.alloc hb1.size _).alloc (by have:=hb1.size;simp;omega) _;have hz:=hbel.size;have hz1:=hb1.size;have hblk:((w1.alloc Y).alloc Y).heap[w1.heap.size+1]?=some Y:=heap_alloc2_new w1 Y Y;have hnews:∀j u,(V.cells y)[j]?=some u->((w1.alloc Y).alloc Y).cell? ((⟨w1.heap.size+1,0,none⟩:Addr).add j)=some u:=by
  intro j u hu;rw[BO,AM];rw[<-hY]at hblk⊢;rw[Ad _ _ _ _ _ _ hblk];simpa[V.cells]using hu
 obtain⟨v',w3,hrun,hown3,hgr,hown4⟩:=Jq (Em hown λg _ hg=>hb2.block g hg) y _ 1 hnews (by omega) hlen ty;have hfar:∀b,b<w1.heap.size+2->it.ownBlock≠some b->w3.heap[b]?=((w1.alloc Y).alloc Y).heap[b]?:=λb hb hne=>hgr.block b (by rw[hs2];exact hb) (λh=>hne h.symm);have hit:∀g,it.ownBlock=some g->g<wr.heap.size:=λg hg=>(Fs hown hg).2;have hv':∀b,b<w1.heap.size->it.ownBlock≠some b->v'.ownBlock≠some b:=λb hb hne h=>by
  rcases hown4 with h4|h4
  ·exact hne (h4.symm.trans h)
  ·rw[h4,hs2]at h;cases h;omega
 refine⟨v',w3,hrun,hown3,AllP.snoc ?_ (hall.mono λb hb hlt=>⟨?_,hb.1,hv' b (by omega) hb.2⟩),?_⟩
 ·refine B6 (λb hb hlt=>⟨?_,by omega,?_⟩) t y hy
  ·have hne:it.ownBlock≠some b:=λh=>by have:=hit b h;omega
   rw[hfar b (by omega) hne,Az _ _ _ (by simp;omega),Az _ _ _ hlt]
  ·exact hv' b hlt (λh=>by have:=hit b h;omega)
 ·rw[hfar b (by omega) hb.2];exact hb2.block b hlt
 ·refine hbel.trans ⟨hgr.os.trans hb2.os,hgr.tape.trans hb2.tape,hgr.output.trans hb2.output,Ar hb2.size hgr.size,λb hb=>?_⟩;rw[hfar b (by omega) (λh=>by have:=(Fs hown h).1;omega)];exact hb2.block b (by omega)
theorem OL(k:Nat)(hread:ReadSaid k)(a:Option Addr)(n c d:Nat)(b:List Int)(w:World)(h:Ag w a n c b)(hd:d+k=8)(hn:n<16777216):
 Calls prog 159 #[.slice a n c, .int .i64 d] w (AllPost w (rdAll (rd k) b.length b)):=by
 have HRD:=ZQ hread;have HA:=ZQ h;obtain⟨res,hres⟩:∃r,rdAll (rd k) b.length b=r:=⟨_,rfl⟩;rw[hres];have HRES:=ZQ hres;have HL:=ZQ h.l;clear hread h hres;go_enter func159,ntmps159;go_wp2_with fail
 go_loopw [0,6] (λbo it v=>∃(aj:Option Addr)(nj cj:Nat)(bj:List Int)(ts:List T)(ys:List V),bo= .slice aj nj cj/\Ag w aj nj cj bj/\nj+ts.length<=n/\res=RL.pre ts (rdAll (rd k) bj.length bj)/\OwnI v w.heap.size it ys/\AllP (λb=>w.heap.size<=b/\it.ownBlock≠some b) v ts ys/\Below w.heap.size w v) (λbo _ _=>lenOf bo)
 case atStart=>exact⟨a,n,c,b,[],[],rfl,HA.out,by simp,by rw[RN];exact HRES.out.symm,CH _ _ _ _,trivial,Ak _ _⟩
 case round=>
  obtain⟨aj,nj,cj,bj,ts,ys,rfl,hag,hnj,hres,hown,hall,hbel⟩:=hrel;have hlj:=hag.l;by_cases h0:nj=0
  ·subst h0;have hb0:bj=[]:=A3 hlj;subst hb0;rw[Fq]at hres;obtain⟨ia,ic,rfl,e2,e3,e4⟩:=LD (P:=λb=>w.heap.size<=b) hown (hall.mono λb hb _=>⟨rfl,hb.1⟩) (λg hg=>World.ownsRow.lt hown g hg|>.1);have HF:Hid (AllPost w res (.returned (.tuple #[.slice ia ts.length ic, .int .i64 0])) wr):=by
    rw[hres];simp only[RL.pre,A4];exact⟨hbel,ia,ic,rfl,e2,e3,e4⟩
   clear hag hres hown hall hbel e2 e3 e4 hlj;go_wp2_with fail;go_ret2;exact HF.out
  ·have hb0:bj≠[]:=λh=>by rw[h]at hlj;simp at hlj;omega
   have hni:(0:Int)<nj:=(by omega);have hnn:0<nj:=(by omega);obtain⟨gj,offj,rfl,hc1,hc2,hcc⟩:=ag_head hag hnn;unfold maxLen at hc2;have hcal:=HRD.out _ nj cj d bj wr (hag.at hbel) hd (by omega);have HCAL:=ZQ hcal;have HAG:=ZQ hag;have HREL:=ZQ (And.intro hres (And.intro hown (And.intro hall hbel)));clear hcal hag hres hown hall hbel hcc hlj;go_wp2_with fail;refine HCAL.out.mono ?_;rintro e w1⟨hb1,hm⟩;obtain⟨hres,hown,hall,hbel⟩:=HREL.out;cases hr:rd k bj with
   |bad er=>
    rw[hr]at hm;obtain⟨rfl,her⟩:=hm;have hfin:res= .bad er:=by
     rw[hres];obtain⟨q,hq⟩:∃q,bj.length=q+1:=⟨bj.length-1,by have:=HAG.out.l;omega⟩;rw[hq,FR hb0 hr];rfl
    have HF:Hid (∀w',Below w.heap.size w w'->AllPost w res (.returned (.tuple #[.slice none 0 0, .int .i64 (er:Nat)])) w'):=λw' hw'=>by rw[hfin];exact⟨hw',rfl,her⟩
    have hee:((er:Int) !=0)=true:=(by rw[BT];omega);have HB:=ZQ ((hbel.trans (hb1.mono hbel.size)).alloc (Ar hbel.size hb1.size) (.cells #[.bool false, .slice none 0 0, .slice none 0 0] 109));clear hfin hres hown hall hbel hb1 her hr HREL;go_wp2_with fail;go_ret2;exact HF.out _ HB.out
   |ok t m=>
    rw[hr]at hm;obtain⟨y,rfl,hy⟩:=hm;have HH:=ZQ (And.intro hres (And.intro hown (And.intro hall (And.intro hbel (And.intro hb1 hy)))));obtain⟨hm1,hm2⟩:=OE hr;have hml:=HAG.out.l;have HRR:=ZQ hr;have hyl:ys.length<=1000000000:=(by have:=hall.len;omega);obtain⟨v',w3,hrun,s1,s2,s3⟩:=LE hown hall hbel hb1 hy hyl 107;have HRUN:=ZQ hrun;have hdrop:=ag_drop HAG.out (k:=m) (by omega);have hpre:=OK (f:=rd k) (ts:=ts) (λb t m h=>(OE h).1) hb0 hr
    have HEND:Hid (∃(bj':List Int)(ts':List T)(ys':List V),Ag w (if cj=m then some ⟨gj,offj,none⟩else some ⟨gj,offj+m,none⟩) (nj-m) (cj-m) bj'/\nj-m+ts'.length<=n/\res=RL.pre ts' (rdAll (rd k) bj'.length bj')/\OwnI w3 w.heap.size v' ys'/\AllP (λb=>w.heap.size<=b/\v'.ownBlock≠some b) w3 ts' ys'/\Below w.heap.size w w3):=
     ⟨bj.drop m,ts++[t],ys++[y],hdrop,by rw[Ab];simp;omega,by rw[hres,hpre],s1,s2,s3⟩
    have hmi:(m:Int)<=nj:=(by omega);clear hres hown hall hbel hb1 hy hr HREL hrun s1 s2 s3 hdrop hpre hyl HH;go_wp2_with (first|refine E6 rfl _ _ rfl _ _ rfl rfl HRUN.out ?_);obtain⟨bj',ts',ys',e1,e2,e3,e4,e5,e6⟩:=HEND.out;refine⟨⟨_,nj-m,cj-m,bj',ts',ys',rfl,e1,e2,e3,e4,e5,e6⟩,?_⟩;simp only[lenOf];omega
theorem WX{e:Nat}(h:hdr deep b= .bad e):e≠0:=by
 unfold hdr at h;split at h
 ·cases h;decide
 ·split at h
  ·cases h;decide
  ·split at h
   ·cases h
   ·split at h
    ·split at h
     ·cases h;assumption
     ·split at h
      ·cases h;decide
      ·cases h
    ·split at h
     ·cases h;decide
     ·cases h
theorem UP{f t:Nat}(h:hdr deep (x::r)= .ok f t)(hx:x<256):t-f<16777216∨∃y∈r,¬(0<=y/\y<256):=by
 by_cases hall:∀y∈r,0<=y/\y<256
 ·left;simp only[hdr]at h;split at h
  ·cases h
  ·split at h
   ·cases h;decide
   ·split at h
    ·split at h
     ·cases h
     ·rename_i h4;obtain⟨a1,a2,_,_,a3⟩:=Ia (Decidable.not_not.1 h4);split at h
      ·cases h
      ·cases h;obtain⟨v1,v2⟩:=DN hall a2 a1;omega
    ·split at h
     ·cases h
     ·cases h;omega
 ·right;simpa using hall
theorem OM(hx:192<=x):hdr true (x::r)= .bad 21:=by
 simp[hdr,hx]
theorem NK{off:Nat}(h:Ag w (some ⟨g,off,none⟩) n c b){f t:Nat}(hf:f<=t)(ht:t<=n):Ag w (if c=f then some ⟨g,off,none⟩else some ⟨g,off+f,none⟩) (t-f) (c-f) ((b.take t).drop f):=by
 have hl:=h.l;have hl2:((b.take t).drop f).length=t-f:=by rw[List.length_drop,List.length_take];omega
 refine⟨?_,?_,hl2,λx hx=>h.b x (List.mem_of_mem_take (List.mem_of_mem_drop hx))⟩
 ·by_cases h0:t-f=0
  ·exact .inl ⟨h0,List.eq_nil_of_length_eq_zero (by omega)⟩
  ·rcases h.i with⟨h1,_⟩|⟨g',off',h1,h2,h3,h4,h5,h6⟩
   ·omega
   ·cases h1;refine .inr ⟨g,off+f,if_neg (by omega),hl2,by omega,by omega,by omega,λj hj=>?_⟩;rw[hl2]at hj;have:=h6 (f+j) (by omega);rw[Nat.add_assoc,this];simp[List.getD,List.getElem?_drop,List.getElem?_take_of_lt (show f+j<t by omega)]
 ·intro hh;split at hh<;>cases hh
theorem UQ(a:Option Addr)(n c d:Nat)(b:List Int)(w:World)(h:Ag w a n c b)(hd:d<=8)(hn:n<=140737488351232)(er:Nat)(hh:hdr (decide (d=8)) b= .bad er):
 Calls prog 153 #[.slice a n c, .int .i64 d] w (ReadPost w (.bad er)):=by
 have hcal:=λw'(hb:Below w.heap.size w w')=>IP a n c d b w' (h.at hb) hd (by omega);simp only[hh,HR.f,HR.t,HR.e]at hcal;have her:=WX hh;have hee:((er:Int) !=0)=true:=by rw[BT];omega
 have HCAL:=ZQ hcal;clear hcal hh h;go_enter func153,ntmps153;go_wp2_with fail;refine(HCAL.out _ ((Ak _ _).alloc (Aa _) _)).mono ?_;rintro e w1⟨rfl,hb⟩;rw[show((0:Nat):Int)=0 from rfl];have hres1:w1.heap[w.heap.size]?=some (.cells #[.bool false, .slice none 0 0, .slice none 0 0] 109):=Below.row hb (Aj _ _);have hb1:Below w.heap.size w w1:=((Ak w.heap.size w).alloc (Aa _) _).trans (hb.mono (by simp));have x0:w1.cell? ⟨w.heap.size,0,none⟩=some (.bool false):=by rw[Ad _ _ _ _ _ _ hres1];rfl
 have x1:w1.cell? ⟨w.heap.size,1,none⟩=some (.slice none 0 0):=by rw[Ad _ _ _ _ _ _ hres1];rfl
 have x2:w1.cell? ⟨w.heap.size,2,none⟩=some (.slice none 0 0):=by rw[Ad _ _ _ _ _ _ hres1];rfl
 have xf:∀o,w1.frozen? ⟨w.heap.size,o,none⟩=false:=λo=>AY _ _ _ _ _ hres1;have HR:=ZQ hres1;have HB1:=ZQ hb1;clear hres1 hb hb1;go_wp2_with fail;have hr:=put3 HR.out (.bool false) (.slice none 0 0) (.slice none 0 0);refine Aq (Bi results153 _ _ w.heap.size _ _ _ rfl hr) rfl ?_;exact⟨Ch HB1.out (Aa _) _ _ _,rfl,her⟩
theorem Ft{bs:List Int}(h:Row g w bs)(hl:bs.length=m)(hb:∀x∈bs,0<=x/\x<256)(hm:m<=140737488351232)(hP:P g):LiesP P w (.mk false bs []) ⟨false,some ⟨g,0,none⟩,m,m,none,0,0⟩:=by
 have hm2:m<=9223372036854775807:=by omega
 refine liesP_eq.2 ⟨⟨rfl,row_ag h hl hb hm2,rfl,Aa _,by show 0<=maxLen;unfold maxLen;omega,⟨hm,by show 0<=_;omega⟩,λg' off e _=>?_⟩,D9⟩;cases e;exact⟨hP,λo=>AY _ _ _ _ _ h⟩
theorem SZ(a:Option Addr)(n c d:Nat)(x:Int)(r:List Int)(w:World)(h:Ag w a n c (x::r))(hd:d<=8)(hn:n<=140737488351232)(f t:Nat)(hh:hdr (decide (d=8)) (x::r)= .ok f t)(hx:x<192)(res:R)
 (hres:(if f=1/\t=2/\(x::r).getD 1 0<128 then R.bad 23 else R.ok (.mk false (((x::r).take t).drop f) []) t)=res):
 Calls prog 153 #[.slice a n c, .int .i64 d] w (ReadPost w res):=by
 have hcal:=λw'(hb:Below w.heap.size w w')=>IP a n c d (x::r) w' (h.at hb) hd (by omega);simp only[hh,HR.f,HR.t,HR.e]at hcal;obtain⟨hft,htn,ht1,_⟩:=L3 hh;rw[h.l]at htn;obtain⟨g,off,rfl,hc1,hc2,hc⟩:=ag_head h (by omega);unfold maxLen at hc2;have hsub:=NK h hft htn;have HCAL:=ZQ hcal;have HA:=ZQ h;have HC:=ZQ hc;have HSUB:=ZQ hsub;have HRES:=ZQ hres;have hbb:=h.b x (by simp);obtain⟨hx0,hx1⟩:=hbb;have hn1:0<n:=by omega
 have hn2:(0:Int)<n:=by omega
 clear hcal hh h hc hsub hres;go_enter func153,ntmps153;go_wp2_with fail;refine(HCAL.out _ ((Ak _ _).alloc (Aa _) _)).mono ?_;rintro e w1⟨rfl,hb⟩;rw[show((0:Nat):Int)=0 from rfl];have hres1:w1.heap[w.heap.size]?=some (.cells #[.bool false, .slice none 0 0, .slice none 0 0] 109):=Below.row hb (Aj _ _);have hb1:Below w.heap.size w w1:=((Ak w.heap.size w).alloc (Aa _) _).trans (hb.mono (by simp));have x0:w1.cell? ⟨w.heap.size,0,none⟩=some (.bool false):=by rw[Ad _ _ _ _ _ _ hres1];rfl
 have x1:w1.cell? ⟨w.heap.size,1,none⟩=some (.slice none 0 0):=by rw[Ad _ _ _ _ _ _ hres1];rfl
 have x2:w1.cell? ⟨w.heap.size,2,none⟩=some (.slice none 0 0):=by rw[Ad _ _ _ _ _ _ hres1];rfl
 have xf:∀o,w1.frozen? ⟨w.heap.size,o,none⟩=false:=λo=>AY _ _ _ _ _ hres1;have y0:w1.cell? ⟨g,off,none⟩=some (.int .u8 x):=by have:=HC.out 0 hn1;exact(hb1.cell (p:=⟨g,off,none⟩) (Af this)).trans this
 have HR:=ZQ hres1;have HB1:=ZQ hb1;clear hres1 hb hb1;have fin:∀w1',w1'=w1->True:=λ_ _=>trivial;by_cases h12:f=1/\t=2
 ·obtain⟨rfl,rfl⟩:=h12;have y1:w1.cell? ⟨g,off+1,none⟩=some (.int .u8 ((x::r).getD 1 0)):=by have:=HC.out 1 (by omega);exact(HB1.out.cell (p:=⟨g,off+1,none⟩) (Af this)).trans this
  have hz:=HA.out.b ((x::r).getD 1 0) (by have hl:=HA.out.l;rw[List.getD,Ac (by omega)];exact Bw _);have hres:=HRES.out;obtain⟨z,hzz⟩:∃z,(x::r).getD 1 0=z:=⟨_,rfl⟩;rw[hzz]at y1 hz hres;obtain⟨hz0,hz1⟩:=hz;have hn3:(1:Int)<n:=by omega
  clear hzz;by_cases hz8:z<128
  ·rw[Ai ⟨rfl,rfl,hz8⟩]at hres;subst hres;go_wp2_with fail;have hr:=put3 HR.out (.bool false) (.slice none 0 0) (.slice none 0 0);refine Aq (Bi results153 _ _ w.heap.size _ _ _ rfl hr) rfl ?_;exact⟨Ch HB1.out (Aa _) _ _ _,rfl,by decide⟩
  ·rw[Ae (by intro h;exact hz8 h.2.2)]at hres;subst hres;have hsub:=HSUB.out;rw[Ae (by omega)]at hsub;have HCT:=ZQ (FD _ (2-1) (c-1) _ w1 (hsub.at HB1.out) (by omega));clear hsub;go_wp2_with fail;refine HCT.out.mono ?_;rintro e w2⟨rfl,hrow2,hb2⟩;have hres2:=Below.row hb2 HR.out;have x0:w2.cell? ⟨w.heap.size,0,none⟩=some (.bool false):=(by rw[Ad _ _ _ _ _ _ hres2];rfl);have x1:w2.cell? ⟨w.heap.size,1,none⟩=some (.slice none 0 0):=(by rw[Ad _ _ _ _ _ _ hres2];rfl);have x2:w2.cell? ⟨w.heap.size,2,none⟩=some (.slice none 0 0):=(by rw[Ad _ _ _ _ _ _ hres2];rfl);have xf:∀o,w2.frozen? ⟨w.heap.size,o,none⟩=false:=λo=>AY _ _ _ _ _ hres2;have HR2:=ZQ hres2;have HROW:=ZQ hrow2;have HB2:=ZQ (HB1.out.trans (hb2.mono HB1.out.size));clear hres2 hrow2 hb2;go_wp2_with fail;have hr:=put3 HR2.out (.bool false) (.slice (some ⟨w1.heap.size+1,0,none⟩) (2-1) (2-1)) (.slice none 0 0);refine Aq (Bi results153 _ _ w.heap.size _ _ _ rfl hr) rfl ?_;have hz1:=HB1.out.size;refine⟨Ch HB2.out (Aa _) _ _ _,⟨false,some ⟨w1.heap.size+1,0,none⟩,2-1,2-1,none,0,0⟩,rfl,?_⟩;exact Ft ((D3 (by omega) _ _ _).trans HROW.out) HSUB.out.l HSUB.out.b (by omega) (by show w.heap.size<=_;omega)
 ·have hres:=HRES.out;rw[Ae (λh=>h12 ⟨h.1,h.2.1⟩)]at hres;subst hres;have hsub:=HSUB.out;have HSL0:=ZQ hsub.l;have HSB:=ZQ hsub.b;have hfi:(f:Int)<=t:=by omega
  have hti:(t:Int)<=n:=by omega
  by_cases hcf:c=f
  ·rw[Ai hcf]at hsub;have e1:t=f:=(by omega);have e2:n=f:=(by omega);subst e1 e2 hcf;rw[Cc]at hsub HSL0;have HCT:=ZQ (FD _ 0 0 _ w1 (hsub.at HB1.out) (by omega));have HSL:=HSL0;clear hsub HSUB HSL0;by_cases hf1:c=1
   ·subst hf1;have ht2:((1:Int)==2)=false:=(by decide);go_wp2_with fail;refine HCT.out.mono ?_;rintro e w2⟨rfl,hrow2,hb2⟩;have hres2:=Below.row hb2 HR.out;have x0:w2.cell? ⟨w.heap.size,0,none⟩=some (.bool false):=(by rw[Ad _ _ _ _ _ _ hres2];rfl);have x1:w2.cell? ⟨w.heap.size,1,none⟩=some (.slice none 0 0):=(by rw[Ad _ _ _ _ _ _ hres2];rfl);have x2:w2.cell? ⟨w.heap.size,2,none⟩=some (.slice none 0 0):=(by rw[Ad _ _ _ _ _ _ hres2];rfl);have xf:∀o,w2.frozen? ⟨w.heap.size,o,none⟩=false:=λo=>AY _ _ _ _ _ hres2;have HR2:=ZQ hres2;have HROW:=ZQ hrow2;have HB2:=ZQ (HB1.out.trans (hb2.mono HB1.out.size));clear hres2 hrow2 hb2;go_wp2_with fail;have hr:=put3 HR2.out (.bool false) (.slice (some ⟨w1.heap.size+1,0,none⟩) 0 0) (.slice none 0 0);refine Aq (Bi results153 _ _ w.heap.size _ _ _ rfl hr) rfl ?_;have hz1:=HB1.out.size;refine⟨Ch HB2.out (Aa _) _ _ _,⟨false,some ⟨w1.heap.size+1,0,none⟩,0,0,none,0,0⟩,rfl,?_⟩;exact Ft ((D3 (by omega) _ _ _).trans HROW.out) HSL.out HSB.out (by omega) (by show w.heap.size<=_;omega)
   ·have hf2:((c:Int)==1)=false:=(by simp;omega);go_wp2_with fail;refine HCT.out.mono ?_;rintro e w2⟨rfl,hrow2,hb2⟩;have hres2:=Below.row hb2 HR.out;have x0:w2.cell? ⟨w.heap.size,0,none⟩=some (.bool false):=(by rw[Ad _ _ _ _ _ _ hres2];rfl);have x1:w2.cell? ⟨w.heap.size,1,none⟩=some (.slice none 0 0):=(by rw[Ad _ _ _ _ _ _ hres2];rfl);have x2:w2.cell? ⟨w.heap.size,2,none⟩=some (.slice none 0 0):=(by rw[Ad _ _ _ _ _ _ hres2];rfl);have xf:∀o,w2.frozen? ⟨w.heap.size,o,none⟩=false:=λo=>AY _ _ _ _ _ hres2;have HR2:=ZQ hres2;have HROW:=ZQ hrow2;have HB2:=ZQ (HB1.out.trans (hb2.mono HB1.out.size));clear hres2 hrow2 hb2;go_wp2_with fail;have hr:=put3 HR2.out (.bool false) (.slice (some ⟨w1.heap.size+1,0,none⟩) 0 0) (.slice none 0 0);refine Aq (Bi results153 _ _ w.heap.size _ _ _ rfl hr) rfl ?_;have hz1:=HB1.out.size;refine⟨Ch HB2.out (Aa _) _ _ _,⟨false,some ⟨w1.heap.size+1,0,none⟩,0,0,none,0,0⟩,rfl,?_⟩;exact Ft ((D3 (by omega) _ _ _).trans HROW.out) HSL.out HSB.out (by omega) (by show w.heap.size<=_;omega)
  ·rw[Ae hcf]at hsub;obtain⟨q,hq⟩:∃q,q=t-f:=⟨_,rfl⟩;have HCT:=ZQ (FD _ (t-f) (c-f) _ w1 (hsub.at HB1.out) (by omega));have HSL:Hid ((((x::r).take t).drop f).length=q):=(by rw[hq];exact HSL0);have hq2:q<=140737488351232:=(by omega);have HQ:=ZQ hq;clear hsub HSUB HSL0 hq;by_cases hf1:f=1
   ·subst hf1;have ht2:((t:Int)==2)=false:=(by simp at h12⊢;omega);go_wp2_with fail;refine HCT.out.mono ?_;rw[<-HQ.out];rintro e w2⟨rfl,hrow2,hb2⟩;have hres2:=Below.row hb2 HR.out;have x0:w2.cell? ⟨w.heap.size,0,none⟩=some (.bool false):=(by rw[Ad _ _ _ _ _ _ hres2];rfl);have x1:w2.cell? ⟨w.heap.size,1,none⟩=some (.slice none 0 0):=(by rw[Ad _ _ _ _ _ _ hres2];rfl);have x2:w2.cell? ⟨w.heap.size,2,none⟩=some (.slice none 0 0):=(by rw[Ad _ _ _ _ _ _ hres2];rfl);have xf:∀o,w2.frozen? ⟨w.heap.size,o,none⟩=false:=λo=>AY _ _ _ _ _ hres2;have HR2:=ZQ hres2;have HROW:=ZQ hrow2;have HB2:=ZQ (HB1.out.trans (hb2.mono HB1.out.size));clear hres2 hrow2 hb2;go_wp2_with fail;have hr:=put3 HR2.out (.bool false) (.slice (some ⟨w1.heap.size+1,0,none⟩) q q) (.slice none 0 0);refine Aq (Bi results153 _ _ w.heap.size _ _ _ rfl hr) rfl ?_;have hz1:=HB1.out.size;refine⟨Ch HB2.out (Aa _) _ _ _,⟨false,some ⟨w1.heap.size+1,0,none⟩,q,q,none,0,0⟩,rfl,?_⟩;exact Ft ((D3 (by omega) _ _ _).trans HROW.out) HSL.out HSB.out (by omega) (by show w.heap.size<=_;omega)
   ·have hf2:((f:Int)==1)=false:=(by simp;omega);go_wp2_with fail;refine HCT.out.mono ?_;rw[<-HQ.out];rintro e w2⟨rfl,hrow2,hb2⟩;have hres2:=Below.row hb2 HR.out;have x0:w2.cell? ⟨w.heap.size,0,none⟩=some (.bool false):=(by rw[Ad _ _ _ _ _ _ hres2];rfl);have x1:w2.cell? ⟨w.heap.size,1,none⟩=some (.slice none 0 0):=(by rw[Ad _ _ _ _ _ _ hres2];rfl);have x2:w2.cell? ⟨w.heap.size,2,none⟩=some (.slice none 0 0):=(by rw[Ad _ _ _ _ _ _ hres2];rfl);have xf:∀o,w2.frozen? ⟨w.heap.size,o,none⟩=false:=λo=>AY _ _ _ _ _ hres2;have HR2:=ZQ hres2;have HROW:=ZQ hrow2;have HB2:=ZQ (HB1.out.trans (hb2.mono HB1.out.size));clear hres2 hrow2 hb2;go_wp2_with fail;have hr:=put3 HR2.out (.bool false) (.slice (some ⟨w1.heap.size+1,0,none⟩) q q) (.slice none 0 0);refine Aq (Bi results153 _ _ w.heap.size _ _ _ rfl hr) rfl ?_;have hz1:=HB1.out.size;refine⟨Ch HB2.out (Aa _) _ _ _,⟨false,some ⟨w1.heap.size+1,0,none⟩,q,q,none,0,0⟩,rfl,?_⟩;exact Ft ((D3 (by omega) _ _ _).trans HROW.out) HSL.out HSB.out (by omega) (by show w.heap.size<=_;omega)
theorem IQ{ia:Option Addr}{ic:Nat}(h1:ts.length<=ic)(h2:ic<=maxLen)(h3:ts.length<=140737488351232)(h:LiesPAll P w ts ia 0):LiesP P w (.mk true [] ts) ⟨true,none,0,0,ia,ts.length,ic⟩:=
 liesP_eq.2 ⟨⟨rfl,⟨.inl ⟨rfl,rfl⟩,λ_=>⟨rfl,rfl⟩,rfl,λx hx=>by cases hx⟩,rfl,h1,h2,⟨AD _,h3⟩,λg off e=>by cases e⟩,h⟩
theorem Ta(gg:List Int->R)(hlen:∀b t m,gg b= .ok t m->1<=m/\m<=b.length)(a:Option Addr)(n c d:Nat)(x:Int)(r:List Int)(w:World)(h:Ag w a n c (x::r))(hd:d<8)(hn:n<=140737488351232)(f t:Nat)(hh:hdr (decide (d=8)) (x::r)= .ok f t)(hx:192<=x)(res:R)
 (hall:∀(a:Option Addr)(n c:Nat)(b:List Int)(w:World),Ag w a n c b->n<16777216->Calls prog 159 #[.slice a n c, .int .i64 (d+1:Nat)] w (AllPost w (rdAll gg b.length b)))
 (hres:(match rdAll gg (((x::r).take t).drop f).length (((x::r).take t).drop f)with| .bad e=>R.bad e| .ok ts=>R.ok (.mk true [] ts) t)=res):
 Calls prog 153 #[.slice a n c, .int .i64 d] w (ReadPost w res):=by
 have hcal:=λw'(hb:Below w.heap.size w w')=>IP a n c d (x::r) w' (h.at hb) (by omega) (by omega);have hsmall:t-f<16777216:=by
  rcases UP hh (h.b x (by simp)).2 with h'|⟨y,hy,hny⟩
  ·exact h'
  ·exact absurd (h.b y (AN _ hy)) hny
 simp only[hh,HR.f,HR.t,HR.e]at hcal;obtain⟨hft,htn,ht1,_⟩:=L3 hh;rw[h.l]at htn;obtain⟨g,off,rfl,hc1,hc2,hc⟩:=ag_head h (by omega);unfold maxLen at hc2;have hsub:=NK h hft htn;have HCAL:=ZQ hcal;have HALL:=ZQ hall;have HLEN:=ZQ hlen;have HC:=ZQ hc;have HSL:=ZQ hsub.l;have HRES:=ZQ hres;obtain⟨hx0,hx1⟩:=h.b x (by simp);have hn1:0<n:=by omega
 have hn2:(0:Int)<n:=by omega
 have hfi:(f:Int)<=t:=by omega
 have hti:(t:Int)<=n:=by omega
 have hx2:¬x<192:=by omega
 clear hcal hh h hc hres hall hlen;by_cases hcf:c=f
 ·rw[Ai hcf]at hsub;have e1:t=f:=by omega
  have e2:n=f:=by omega
  subst e1 e2 hcf;rw[Cc]at hsub HSL;have HS:=ZQ hsub;clear hsub;go_enter func153,ntmps153;go_wp2_with fail;refine(HCAL.out _ ((Ak _ _).alloc (Aa _) _)).mono ?_;rintro e w1⟨rfl,hb⟩;rw[show((0:Nat):Int)=0 from rfl];have hres1:w1.heap[w.heap.size]?=some (.cells #[.bool false, .slice none 0 0, .slice none 0 0] 109):=Below.row hb (Aj _ _);have hb1:Below w.heap.size w w1:=((Ak w.heap.size w).alloc (Aa _) _).trans (hb.mono (by simp));have y0:w1.cell? ⟨g,off,none⟩=some (.int .u8 x):=by have:=HC.out 0 hn1;exact(hb1.cell (p:=⟨g,off,none⟩) (Af this)).trans this
  have HR:=ZQ hres1;have HB1:=ZQ hb1;clear hres1 hb hb1;have hct:=HALL.out _ _ _ _ w1 (HS.out.at HB1.out) (by omega);have HCT:=ZQ hct;clear hct;go_wp2_with fail;rw[show((d:Int)+1)=((d+1:Nat):Int)from by omega];refine HCT.out.mono ?_;rintro e w2⟨hb2,hm⟩;have hres2:=Below.row hb2 HR.out;have x0:w2.cell? ⟨w.heap.size,0,none⟩=some (.bool false):=by rw[Ad _ _ _ _ _ _ hres2];rfl
  have x1:w2.cell? ⟨w.heap.size,1,none⟩=some (.slice none 0 0):=by rw[Ad _ _ _ _ _ _ hres2];rfl
  have x2:w2.cell? ⟨w.heap.size,2,none⟩=some (.slice none 0 0):=by rw[Ad _ _ _ _ _ _ hres2];rfl
  have xf:∀o,w2.frozen? ⟨w.heap.size,o,none⟩=false:=λo=>AY _ _ _ _ _ hres2;have HR2:=ZQ hres2;have HB2:=ZQ (HB1.out.trans (hb2.mono HB1.out.size));have hz1:=HB1.out.size;have hz2:=lt_of_get HR.out;clear hres2 hb2;cases hr:rdAll gg (((x::r).take c).drop c).length (((x::r).take c).drop c)with
  |bad er=>
   rw[hr]at hm;obtain⟨rfl,her⟩:=hm;have hfin:=HRES.out;rw[hr]at hfin;have HF:=ZQ hfin;have hee:((er:Int) !=0)=true:=(by rw[BT];omega);clear hr hfin;go_wp2_with fail;have hr:=put3 HR2.out (.bool false) (.slice none 0 0) (.slice none 0 0);refine Aq (Bi results153 _ _ w.heap.size _ _ _ rfl hr) rfl ?_;rw[<-HF.out];exact⟨Ch HB2.out (Aa _) _ _ _,rfl,her⟩
  |ok ts=>
   rw[hr]at hm;obtain⟨ia,ic,rfl,hic1,hic2,hli⟩:=hm;have hfin:=HRES.out;rw[hr]at hfin;have hlen:=Iy HLEN.out _ _ _ hr;have HF:=ZQ hfin;have HLI:=ZQ hli;have htl:ts.length<=140737488351232:=(by rw[HSL.out]at hlen;omega);clear hr hfin hli hlen;go_wp2_with fail;have hr:=put3 HR2.out (.bool true) (.slice none 0 0) (.slice ia ts.length ic);refine Aq (Bi results153 _ _ w.heap.size _ _ _ rfl hr) rfl ?_;rw[<-HF.out];refine⟨Ch HB2.out (Aa _) _ _ _,⟨true,none,0,0,ia,ts.length,ic⟩,rfl,?_⟩;refine IQ hic1 hic2 htl (DU (λb(hb:w1.heap.size<=b) hlt=>⟨D3 (by omega) _ _ _,by omega⟩) (λu _=>B6 (λb(hb:w1.heap.size<=b) hlt=>⟨D3 (by omega) _ _ _,by omega⟩) u) HLI.out)
 ·rw[Ae hcf]at hsub;have HS:=ZQ hsub;clear hsub;go_enter func153,ntmps153;go_wp2_with fail;refine(HCAL.out _ ((Ak _ _).alloc (Aa _) _)).mono ?_;rintro e w1⟨rfl,hb⟩;rw[show((0:Nat):Int)=0 from rfl];have hres1:w1.heap[w.heap.size]?=some (.cells #[.bool false, .slice none 0 0, .slice none 0 0] 109):=Below.row hb (Aj _ _);have hb1:Below w.heap.size w w1:=((Ak w.heap.size w).alloc (Aa _) _).trans (hb.mono (by simp));have y0:w1.cell? ⟨g,off,none⟩=some (.int .u8 x):=by have:=HC.out 0 hn1;exact(hb1.cell (p:=⟨g,off,none⟩) (Af this)).trans this
  have HR:=ZQ hres1;have HB1:=ZQ hb1;clear hres1 hb hb1;have HCT:=ZQ (HALL.out _ _ _ _ w1 (HS.out.at HB1.out) hsmall);go_wp2_with fail;rw[show((d:Int)+1)=((d+1:Nat):Int)from by omega];refine HCT.out.mono ?_;rintro e w2⟨hb2,hm⟩;have hres2:=Below.row hb2 HR.out;have x0:w2.cell? ⟨w.heap.size,0,none⟩=some (.bool false):=by rw[Ad _ _ _ _ _ _ hres2];rfl
  have x1:w2.cell? ⟨w.heap.size,1,none⟩=some (.slice none 0 0):=by rw[Ad _ _ _ _ _ _ hres2];rfl
  have x2:w2.cell? ⟨w.heap.size,2,none⟩=some (.slice none 0 0):=by rw[Ad _ _ _ _ _ _ hres2];rfl
  have xf:∀o,w2.frozen? ⟨w.heap.size,o,none⟩=false:=λo=>AY _ _ _ _ _ hres2;have HR2:=ZQ hres2;have HB2:=ZQ (HB1.out.trans (hb2.mono HB1.out.size));have hz1:=HB1.out.size;have hz2:=lt_of_get HR.out;clear hres2 hb2;cases hr:rdAll gg (((x::r).take t).drop f).length (((x::r).take t).drop f)with
  |bad er=>
   rw[hr]at hm;obtain⟨rfl,her⟩:=hm;have hfin:=HRES.out;rw[hr]at hfin;have HF:=ZQ hfin;have hee:((er:Int) !=0)=true:=(by rw[BT];omega);clear hr hfin;go_wp2_with fail;have hr:=put3 HR2.out (.bool false) (.slice none 0 0) (.slice none 0 0);refine Aq (Bi results153 _ _ w.heap.size _ _ _ rfl hr) rfl ?_;rw[<-HF.out];exact⟨Ch HB2.out (Aa _) _ _ _,rfl,her⟩
  |ok ts=>
   rw[hr]at hm;obtain⟨ia,ic,rfl,hic1,hic2,hli⟩:=hm;have hfin:=HRES.out;rw[hr]at hfin;have hlen:=Iy HLEN.out _ _ _ hr;have HF:=ZQ hfin;have HLI:=ZQ hli;have htl:ts.length<=140737488351232:=(by rw[HSL.out]at hlen;omega);clear hr hfin hli hlen;go_wp2_with fail;have hr:=put3 HR2.out (.bool true) (.slice none 0 0) (.slice ia ts.length ic);refine Aq (Bi results153 _ _ w.heap.size _ _ _ rfl hr) rfl ?_;rw[<-HF.out];refine⟨Ch HB2.out (Aa _) _ _ _,⟨true,none,0,0,ia,ts.length,ic⟩,rfl,?_⟩;refine IQ hic1 hic2 htl (DU (λb(hb:w1.heap.size<=b) hlt=>⟨D3 (by omega) _ _ _,by omega⟩) (λu _=>B6 (λb(hb:w1.heap.size<=b) hlt=>⟨D3 (by omega) _ _ _,by omega⟩) u) HLI.out)
theorem MJ(k:Nat)(gg:List Int->R)(hrd:∀b,rd k b=rd1 gg (decide (k=0)) b)(hlen:∀b t m,gg b= .ok t m->1<=m/\m<=b.length)
 (hall:0<k->∀(d:Nat),d+k=8->∀(a:Option Addr)(n c:Nat)(b:List Int)(w:World),Ag w a n c b->n<16777216->Calls prog 159 #[.slice a n c, .int .i64 (d+1:Nat)] w (AllPost w (rdAll gg b.length b))):ReadSaid k:=by
 intro a n c d b w h hd hn;rw[hrd];have hdec:decide (k=0)=decide (d=8):=by by_cases h0:k=0<;>simp[h0]<;>omega
 rw[hdec];unfold rd1;cases hh:hdr (decide (d=8)) b with
 |bad e=>exact UQ a n c d b w h (by omega) hn e hh
 |ok f t=>
  cases b with
  |nil=>simp[hdr]at hh
  |cons x r=>
   dsimp only;by_cases hx:(x::r).headD 0<192
   ·rw[Ai hx];exact SZ a n c d x r w h (by omega) hn f t hh hx _ rfl
   ·rw[Ae hx];have hx2:¬x<192:=hx;have hk:0<k:=by
     cases k with
     |succ k=>omega
     |zero=>
      exfalso;have hd8:decide (d=8)=true:=(by simp;omega);rw[hd8,OM (by omega)]at hh;cases hh
    exact Ta gg hlen a n c d x r w h (by omega) hn f t hh (by omega) _ (hall hk d hd) rfl
theorem ON:∀k,ReadSaid k
 |0=>MJ 0 (λ_=> .bad 21) (λb=>rfl) (λb t m h=>by cases h) (λh=>absurd h (by omega))
 |k+1=>MJ (k+1) (rd k) (λb=>rfl) (λb t m h=>OE h) (λ_ d hd a n c b w h hn=>OL k (ON k) a n c (d+1) b w h (by omega) hn)
theorem Tb(a:Option Addr)(n c:Nat)(b:List Int)(w:World)(h:Ag w a n c b)(hn:n<=140737488351232):Calls prog 147 #[.slice a n c] w (ReadPost w (rd 8 b)):=by
 have hcal:=λw'(hb:Below w.heap.size w w')=>ON 8 a n c 0 b w' (h.at hb) (by omega) hn;rw[show((0:Nat):Int)=0 from rfl]at hcal;have HCAL:=ZQ hcal;obtain⟨res,hres⟩:∃r,rd 8 b=r:=⟨_,rfl⟩;rw[hres]at HCAL⊢;clear hcal h hres;go_enter func147,ntmps147;go_wp2_with fail;refine(HCAL.out _ ((Ak _ _).alloc (Aa _) _)).mono ?_;rintro e w1⟨hb,hm⟩;have hres1:w1.heap[w.heap.size]?=some (.cells #[.bool false, .slice none 0 0, .slice none 0 0] 109):=Below.row hb (Aj _ _);have hb1:Below w.heap.size w w1:=((Ak w.heap.size w).alloc (Aa _) _).trans (hb.mono (by simp));have x0:w1.cell? ⟨w.heap.size,0,none⟩=some (.bool false):=by rw[Ad _ _ _ _ _ _ hres1];rfl
 have x1:w1.cell? ⟨w.heap.size,1,none⟩=some (.slice none 0 0):=by rw[Ad _ _ _ _ _ _ hres1];rfl
 have x2:w1.cell? ⟨w.heap.size,2,none⟩=some (.slice none 0 0):=by rw[Ad _ _ _ _ _ _ hres1];rfl
 have xf:∀o,w1.frozen? ⟨w.heap.size,o,none⟩=false:=λo=>AY _ _ _ _ _ hres1;have HR:=ZQ hres1;have HB1:=ZQ hb1;clear hres1 hb hb1;cases res with
 |bad er=>
  obtain⟨rfl,her⟩:=hm;go_wp2_with fail;have hr:=put3 HR.out (.bool false) (.slice none 0 0) (.slice none 0 0);refine Aq (Bi results147 _ _ w.heap.size _ _ _ rfl hr) rfl ?_;exact⟨Ch HB1.out (Aa _) _ _ _,rfl,her⟩
 |ok t m=>
  obtain⟨y,rfl,hy⟩:=hm;have HY:=ZQ hy;clear hy;go_wp2_with fail;have hr:=put3 HR.out (.bool y.l) (.slice y.ba y.bn y.bc) (.slice y.ia y.m y.ic);refine Aq (Bi results147 _ _ w.heap.size _ _ _ rfl hr) rfl ?_;refine⟨Ch HB1.out (Aa _) _ _ _,y,rfl,B6 (λb hb hlt=>?_) t y HY.out⟩;have hb':w.heap.size+1<=b:=by have:(w.alloc (.cells #[.bool false, .slice none 0 0, .slice none 0 0] 109)).heap.size<=b:=hb;simpa using this
  exact⟨D3 (by omega) _ _ _,by omega⟩
inductive RT where
 |bad (e:Nat)
 |ok (t:T)
def decP(b:List Int):RT:=match rd 8 b with
 | .bad e=> .bad e
 | .ok t n=>if n<b.length then .bad 24 else .ok t
def DecPost(w:World)(r:RT):Ending->World->Prop:=λe w'=>Below w.heap.size w w'/\
 match r with
 | .bad er=>e= .returned (.tuple #[.agg #[.bool false, .slice none 0 0, .slice none 0 0], .int .i64 (er:Nat)])/\er≠0
 | .ok t=>∃y:V,e= .returned (.tuple #[.agg #[.bool y.l, .slice y.ba y.bn y.bc, .slice y.ia y.m y.ic], .int .i64 0])/\LiesP (λb=>w.heap.size<=b) w' t y
theorem gen_w{W:World}{p q:World->Prop}(F:q W)(h:∀v,q v->p v):p W:=h W F
structure Rb(w v:World):Prop where
 row:v.heap[w.heap.size]?=some (.cells #[.bool false, .slice none 0 0, .slice none 0 0] 109)
 bel:Below w.heap.size w v
theorem Rb.x0{v:World}(h:Rb w v):v.cell? ⟨w.heap.size,0,none⟩=some (.bool false):=by rw[Ad _ _ _ _ _ _ h.row];rfl
theorem Rb.x1{v:World}(h:Rb w v):v.cell? ⟨w.heap.size,1,none⟩=some (.slice none 0 0):=by rw[Ad _ _ _ _ _ _ h.row];rfl
theorem Rb.x2{v:World}(h:Rb w v):v.cell? ⟨w.heap.size,2,none⟩=some (.slice none 0 0):=by rw[Ad _ _ _ _ _ _ h.row];rfl
theorem Rb.xf{v:World}(h:Rb w v):∀o,v.frozen? ⟨w.heap.size,o,none⟩=false:=λo=>AY _ _ _ _ _ h.row
theorem Rb.alloc{v:World}(h:Rb w v)(o:Obj):Rb w (v.alloc o):=⟨(Az v o _ (lt_of_get h.row)).trans h.row,h.bel.alloc h.bel.size o⟩
theorem Rb.call{v v':World}(h:Rb w v)(hb:Below v.heap.size v v'):Rb w v':=⟨Below.row hb h.row,h.bel.trans (hb.mono h.bel.size)⟩
theorem Rb.new(w:World):Rb w (w.alloc (.cells #[.bool false, .slice none 0 0, .slice none 0 0] 109)):=⟨Aj _ _,(Ak _ _).alloc (Aa _) _⟩
theorem LF(a:Option Addr)(n c:Nat)(b:List Int)(w:World)(h:Ag w a n c b)(hn:n<=140737488351232):Calls prog 132 #[.slice a n c] w (DecPost w (decP b)):=by
 have hcal:=λw'(hb:Below w.heap.size w w')=>Tb a n c b w' (h.at hb) hn;have HCAL:=ZQ hcal;have hl:=h.l;obtain⟨res,hres⟩:∃r,decP b=r:=⟨_,rfl⟩;rw[hres];unfold decP at hres;have HRES:=ZQ hres;have HL:=ZQ hl;clear hcal h hres hl;go_enter func132,ntmps132;go_wp2_with fail;refine(HCAL.out _ ((Ak _ _).alloc (Aa _) _)).mono ?_;rintro e w1⟨hb,hm⟩;have RB:=(Rb.new w).call hb;clear hb;have hres:=HRES.out;cases hrd:rd 8 b with
 |bad er=>
  rw[hrd]at hm hres;obtain⟨rfl,her⟩:=hm;subst hres;have hee:((er:Int) !=0)=true:=by rw[BT];omega
  clear hrd
  go_upto_if 14 with fail
  refine gen_w (p:=λv=>Code.wp _ _ _ _ v) (q:=λv=>Rb w v/\v.heap[w1.heap.size]?=some (.cells #[.bool false, .slice none 0 0, .slice none 0 0] 109)) ⟨RB.alloc _,Aj _ _⟩ ?_;clear RB;rintro v⟨RV,hyv⟩;have x0:=RV.x0;have x1:=RV.x1;have x2:=RV.x2;have xf:=RV.xf;have u0:v.cell? ⟨w1.heap.size,0,none⟩=some (#[.bool false, .slice none 0 0, .slice none 0 0][0]):=by rw[Ad _ _ _ _ _ _ hyv];rfl
  have u1:v.cell? ⟨w1.heap.size,1,none⟩=some (#[.bool false, .slice none 0 0, .slice none 0 0][1]):=by rw[Ad _ _ _ _ _ _ hyv];rfl
  have u2:v.cell? ⟨w1.heap.size,2,none⟩=some (#[.bool false, .slice none 0 0, .slice none 0 0][2]):=by rw[Ad _ _ _ _ _ _ hyv];rfl
  have HRV:=ZQ RV;clear RV hyv;go_wp2_with fail;have hr:=put3 HRV.out.row (.bool false) (.slice none 0 0) (.slice none 0 0);refine Aq (EI results132 _ _ w.heap.size _ _ _ rfl hr) rfl ?_;exact⟨Ch HRV.out.bel (Aa _) _ _ _,rfl,her⟩
 |ok t m=>
  rw[hrd]at hm hres;simp only[HL.out]at hres;obtain⟨y,rfl,hy⟩:=hm;have HY:Hid (∀o,LiesP (λb=>w.heap.size+1<=b) (w1.alloc o) t y):=λo=>B6 (λb hb hlt=>⟨Az _ _ _ hlt,by have:(w.alloc (.cells #[.bool false, .slice none 0 0, .slice none 0 0] 109)).heap.size<=b:=hb;simpa using this⟩) t y hy;clear hy;by_cases hmn:m<n
  ·rw[Ai hmn]at hres;subst hres;have hmi:(m:Int)<n:=(by omega);clear hrd
   go_upto_if 14 with fail
   refine gen_w (p:=λv=>Code.wp _ _ _ _ v) (q:=λv=>Rb w v/\v.heap[w1.heap.size]?=some (.cells #[.bool y.l, .slice y.ba y.bn y.bc, .slice y.ia y.m y.ic] 109)/\Hid (LiesP (λb=>w.heap.size+1<=b) v t y)) ⟨RB.alloc _,Aj _ _,HY.out _⟩ ?_;clear RB HY;rintro v⟨RV,hyv,HY⟩;have x0:=RV.x0;have x1:=RV.x1;have x2:=RV.x2;have xf:=RV.xf;have u0:v.cell? ⟨w1.heap.size,0,none⟩=some (#[.bool y.l, .slice y.ba y.bn y.bc, .slice y.ia y.m y.ic][0]):=(by rw[Ad _ _ _ _ _ _ hyv];rfl);have u1:v.cell? ⟨w1.heap.size,1,none⟩=some (#[.bool y.l, .slice y.ba y.bn y.bc, .slice y.ia y.m y.ic][1]):=(by rw[Ad _ _ _ _ _ _ hyv];rfl);have u2:v.cell? ⟨w1.heap.size,2,none⟩=some (#[.bool y.l, .slice y.ba y.bn y.bc, .slice y.ia y.m y.ic][2]):=(by rw[Ad _ _ _ _ _ _ hyv];rfl);have HRV:=ZQ RV;clear RV hyv;go_wp2_with fail;have hr:=put3 HRV.out.row (.bool false) (.slice none 0 0) (.slice none 0 0);refine Aq (EI results132 _ _ w.heap.size _ _ _ rfl hr) rfl ?_;exact⟨Ch HRV.out.bel (Aa _) _ _ _,rfl,by decide⟩
  ·rw[Ae hmn]at hres;subst hres;have hmi:¬(m:Int)<n:=(by omega);clear hrd
   go_upto_if 14 with fail
   refine gen_w (p:=λv=>Code.wp _ _ _ _ v) (q:=λv=>Rb w v/\v.heap[w1.heap.size]?=some (.cells #[.bool y.l, .slice y.ba y.bn y.bc, .slice y.ia y.m y.ic] 109)/\Hid (LiesP (λb=>w.heap.size+1<=b) v t y)) ⟨RB.alloc _,Aj _ _,HY.out _⟩ ?_;clear RB HY;rintro v⟨RV,hyv,HY⟩;have x0:=RV.x0;have x1:=RV.x1;have x2:=RV.x2;have xf:=RV.xf;have u0:v.cell? ⟨w1.heap.size,0,none⟩=some (#[.bool y.l, .slice y.ba y.bn y.bc, .slice y.ia y.m y.ic][0]):=(by rw[Ad _ _ _ _ _ _ hyv];rfl);have u1:v.cell? ⟨w1.heap.size,1,none⟩=some (#[.bool y.l, .slice y.ba y.bn y.bc, .slice y.ia y.m y.ic][1]):=(by rw[Ad _ _ _ _ _ _ hyv];rfl);have u2:v.cell? ⟨w1.heap.size,2,none⟩=some (#[.bool y.l, .slice y.ba y.bn y.bc, .slice y.ia y.m y.ic][2]):=(by rw[Ad _ _ _ _ _ _ hyv];rfl);have HRV:=ZQ RV;clear RV hyv;go_wp2_with fail;have hr:=put3 HRV.out.row (.bool y.l) (.slice y.ba y.bn y.bc) (.slice y.ia y.m y.ic);refine Aq (EI results132 _ _ w.heap.size _ _ _ rfl hr) rfl ?_;refine⟨Ch HRV.out.bel (Aa _) _ _ _,y,rfl,B6 (λb(hb:w.heap.size+1<=b) hlt=>⟨D3 (by omega) _ _ _,by omega⟩) t y HY.out⟩
end Go.Proofs.YtefhepcplempkaaGreat
