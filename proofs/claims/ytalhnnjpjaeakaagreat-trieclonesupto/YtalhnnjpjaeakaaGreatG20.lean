/- What the document's First and Decode answer. -/
import Derived.Test.YtalhnnjpjaeakaaGreatAK
import Derived.Test.YtalhnnjpjaeakaaGreatG19
import Derived.Test.YtalhnnjpjaeakaaGreatG10
import Derived.Test.YtalhnnjpjaeakaaGreatG01
import Derived.Test.YtalhnnjpjaeakaaGreatG07
import Derived.Test.YtalhnnjpjaeakaaGreatG14
import Derived.Test.YtalhnnjpjaeakaaGreatG08
set_option linter.unusedVariables false
set_option maxRecDepth 100000
set_option maxHeartbeats 4000000
open Go.Proofs.Tryz Go.RowKit
namespace Go.Proofs.YtalhnnjpjaeakaaGreat
variable {w : World} {base n : Nat}
theorem YC{g:List Int->R}{deep:Bool}{x:Int}{r:List Int}(h:x<128):rd1 g deep (x::r)= .ok (.mk false [x] []) 1:=by
 have e:hdr deep (x::r)= .ok 0 1:=by
  unfold hdr;simp only;rw[Ad (by omega),Af h]
 unfold rd1;rw[e];simp only;rw[Af (show(x::r).headD 0<192 by show x<192;omega),Ad (by simp)];rfl
theorem K6(k:Nat)(gg:List Int->R)(hrd:∀b,rd k b=rd1 gg (decide (k=0)) b)(hgg:∀b t m,gg b= .ok t m->1<=m/\m<=b.length)
 (hitems:0<k->∀d,d+k=8->∀(a:Option Addr)(n c:Nat)(b:List Int)(w:World),Ag w a n c b->n<=140737488351232->∀i j:Nat,i<=j->j<=n->j-i<16777216->Calls prog 152 #[.slice a n c, .int .i64 i, .int .i64 j, .int .i64 (d+1:Nat)] w (GPost w j (rdAll gg (pc b i j).length (pc b i j)))):FSaid k:=by
 intro a n c b w h hn i j d hij hj hd;have hdec:decide (k=0)=decide (d=8):=by by_cases h0:k=0<;>simp[h0]<;>omega
 by_cases hlt:i<j
 case neg=>exact Rl a n c i j d w k b hlt (by omega) (by rw[WJ (by omega),hrd];exact Fe rfl)
 rw[J8 hlt (by rw[h.l];omega),hrd,hdec];by_cases h1:b.getD i 0<128
 ·exact Rm a n c i j d w b h hn hlt hj _ rfl h1 _ (YC h1)
 by_cases h2:b.getD i 0<192
 ·exact PU gg a n c i j d w b h hn hlt hj (by omega) _ rfl (by omega) h2 _ rfl
 by_cases h8:d=8
 ·subst h8;exact PT a n c i j w b h hn hlt hj _ rfl (by omega) _ (Fe (by rw[AU rfl];exact Pe (by omega)))
 ·exact PV gg a n c i j d w b h hn hlt hj (by omega) _ rfl (by omega) (by omega) (hitems (by omega) d hd) hgg _ rfl
theorem Mi:∀k,FSaid k
 |0=>K6 0 (λ_=> .bad 21) (λb=>rfl) (λb t m h=>by cases h) (λh=>absurd h (by omega))
 |k+1=>K6 (k+1) (rd k) (λb=>rfl) (λb t m h=>OV h) (λ_ d hd a n c b w h hn i j hij hj hl=>Rn k (Mi k) a n c b w h hn i j (d+1) hij hj hl (by omega))
theorem Ro(a:Option Addr)(n c:Nat)(b:List Int)(w:World)(h:Ag w a n c b)(hn:n<=140737488351232):Calls prog 143 #[.slice a n c] w (ReadPost w (rd 8 b)):=by
 have hpcb:pc b 0 n=b:=by unfold pc;rw[Cy,A5 (by rw[h.l];exact Aa _)]
 have hcal:=λw'(hb:Below w.heap.size w w')=>Mi 8 a n c b w' (h.at hb) hn 0 n 0 (Ay _) (Aa _) rfl;rw[hpcb,show((0:Nat):Int)=0 from rfl]at hcal;clear hpcb;have HCAL:=XaI hcal;obtain⟨res,hres⟩:∃r,rd 8 b=r:=⟨_,rfl⟩;rw[hres]at HCAL⊢;clear hcal h hres;go_enter func143,ntmps143;go_wp2_with fail;refine(HCAL.out _ ((Ak _ _).alloc (Aa _) _)).mono ?_;rintro e w1⟨hb,hm⟩;have hres1:w1.heap[w.heap.size]?=some (.cells #[.bool false, .slice none 0 0, .slice none 0 0] 110):=Below.row hb (Ai _ _);have hb1:Below w.heap.size w w1:=((Ak w.heap.size w).alloc (Aa _) _).trans (hb.mono (by simp));have x0:w1.cell? ⟨w.heap.size,0,none⟩=some (.bool false):=by rw[Ae _ _ _ _ _ _ hres1];rfl
 have x1:w1.cell? ⟨w.heap.size,1,none⟩=some (.slice none 0 0):=by rw[Ae _ _ _ _ _ _ hres1];rfl
 have x2:w1.cell? ⟨w.heap.size,2,none⟩=some (.slice none 0 0):=by rw[Ae _ _ _ _ _ _ hres1];rfl
 have xf:∀o,w1.frozen? ⟨w.heap.size,o,none⟩=false:=λo=>AL _ _ _ _ _ hres1;have HR:=XaI hres1;have HB1:=XaI hb1;clear hres1 hb hb1;cases res with
 |bad er=>
  obtain⟨rfl,her⟩:=hm;go_wp2_with fail;have hr:=put3 HR.out (.bool false) (.slice none 0 0) (.slice none 0 0);refine Ao (Bd results143 _ _ w.heap.size _ _ _ rfl hr) rfl ?_;exact⟨Ce HB1.out (Aa _) _ _ _,rfl,her⟩
 |ok t m=>
  obtain⟨y,rfl,hy⟩:=hm;rw[AD];have HY:=XaI hy;clear hy;go_wp2_with fail;have hr:=put3 HR.out (.bool y.l) (.slice y.ba y.bn y.bc) (.slice y.ia y.m y.ic);refine Ao (Bd results143 _ _ w.heap.size _ _ _ rfl hr) rfl ?_;refine⟨Ce HB1.out (Aa _) _ _ _,y,rfl,Bz (λb hb hlt=>?_) t y HY.out⟩;have hb':w.heap.size+1<=b:=by have:(w.alloc (.cells #[.bool false, .slice none 0 0, .slice none 0 0] 110)).heap.size<=b:=hb;simpa using this
  exact⟨Dn (by omega) _ _ _,by omega⟩
theorem K7(a:Option Addr)(n c:Nat)(b:List Int)(w:World)(h:Ag w a n c b)(hn:n<=140737488351232):Calls prog 132 #[.slice a n c] w (DecPost w (decP b)):=by
 have hcal:=λw'(hb:Below w.heap.size w w')=>Ro a n c b w' (h.at hb) hn;have HCAL:=XaI hcal;have hl:=h.l;obtain⟨res,hres⟩:∃r,decP b=r:=⟨_,rfl⟩;rw[hres];unfold decP at hres;have HRES:=XaI hres;have HL:=XaI hl;clear hcal h hres hl;go_enter func132,ntmps132;go_wp2_with fail;refine(HCAL.out _ ((Ak _ _).alloc (Aa _) _)).mono ?_;rintro e w1⟨hb,hm⟩;have RB:=(Rb.new w).call hb;clear hb;have hres:=HRES.out;cases hrd:rd 8 b with
 |bad er=>
  rw[hrd]at hm hres;obtain⟨rfl,her⟩:=hm;subst hres;have hee:((er:Int) !=0)=true:=by rw[BL];omega
  clear hrd
  go_upto_if 14 with fail
  refine gen_w (p:=λv=>Code.wp _ _ _ _ v) (q:=λv=>Rb w v/\v.heap[w1.heap.size]?=some (.cells #[.bool false, .slice none 0 0, .slice none 0 0] 110)) ⟨RB.alloc _,Ai _ _⟩ ?_;clear RB;rintro v⟨RV,hyv⟩;have x0:=RV.x0;have x1:=RV.x1;have x2:=RV.x2;have xf:=RV.xf;have u0:v.cell? ⟨w1.heap.size,0,none⟩=some (#[.bool false, .slice none 0 0, .slice none 0 0][0]):=by rw[Ae _ _ _ _ _ _ hyv];rfl
  have u1:v.cell? ⟨w1.heap.size,1,none⟩=some (#[.bool false, .slice none 0 0, .slice none 0 0][1]):=by rw[Ae _ _ _ _ _ _ hyv];rfl
  have u2:v.cell? ⟨w1.heap.size,2,none⟩=some (#[.bool false, .slice none 0 0, .slice none 0 0][2]):=by rw[Ae _ _ _ _ _ _ hyv];rfl
  have HRV:=XaI RV;clear RV hyv;go_wp2_with fail;have hr:=put3 HRV.out.row (.bool false) (.slice none 0 0) (.slice none 0 0);refine Ao (Ez results132 _ _ w.heap.size _ _ _ rfl hr) rfl ?_;exact⟨Ce HRV.out.bel (Aa _) _ _ _,rfl,her⟩
 |ok t m=>
  rw[hrd]at hm hres;simp only[HL.out]at hres;obtain⟨y,rfl,hy⟩:=hm;have HY:Hid (∀o,LiesP (λb=>w.heap.size+1<=b) (w1.alloc o) t y):=λo=>Bz (λb hb hlt=>⟨Au _ _ _ hlt,by have:(w.alloc (.cells #[.bool false, .slice none 0 0, .slice none 0 0] 110)).heap.size<=b:=hb;simpa using this⟩) t y hy;clear hy;by_cases hmn:m<n
  ·rw[Af hmn]at hres;subst hres;have hmi:(m:Int)<n:=(by omega);clear hrd
   go_upto_if 14 with fail
   refine gen_w (p:=λv=>Code.wp _ _ _ _ v) (q:=λv=>Rb w v/\v.heap[w1.heap.size]?=some (.cells #[.bool y.l, .slice y.ba y.bn y.bc, .slice y.ia y.m y.ic] 110)/\Hid (LiesP (λb=>w.heap.size+1<=b) v t y)) ⟨RB.alloc _,Ai _ _,HY.out _⟩ ?_;clear RB HY;rintro v⟨RV,hyv,HY⟩;have x0:=RV.x0;have x1:=RV.x1;have x2:=RV.x2;have xf:=RV.xf;have u0:v.cell? ⟨w1.heap.size,0,none⟩=some (#[.bool y.l, .slice y.ba y.bn y.bc, .slice y.ia y.m y.ic][0]):=(by rw[Ae _ _ _ _ _ _ hyv];rfl);have u1:v.cell? ⟨w1.heap.size,1,none⟩=some (#[.bool y.l, .slice y.ba y.bn y.bc, .slice y.ia y.m y.ic][1]):=(by rw[Ae _ _ _ _ _ _ hyv];rfl);have u2:v.cell? ⟨w1.heap.size,2,none⟩=some (#[.bool y.l, .slice y.ba y.bn y.bc, .slice y.ia y.m y.ic][2]):=(by rw[Ae _ _ _ _ _ _ hyv];rfl);have HRV:=XaI RV;clear RV hyv;go_wp2_with fail;have hr:=put3 HRV.out.row (.bool false) (.slice none 0 0) (.slice none 0 0);refine Ao (Ez results132 _ _ w.heap.size _ _ _ rfl hr) rfl ?_;exact⟨Ce HRV.out.bel (Aa _) _ _ _,rfl,by decide⟩
  ·rw[Ad hmn]at hres;subst hres;have hmi:¬(m:Int)<n:=(by omega);clear hrd
   go_upto_if 14 with fail
   refine gen_w (p:=λv=>Code.wp _ _ _ _ v) (q:=λv=>Rb w v/\v.heap[w1.heap.size]?=some (.cells #[.bool y.l, .slice y.ba y.bn y.bc, .slice y.ia y.m y.ic] 110)/\Hid (LiesP (λb=>w.heap.size+1<=b) v t y)) ⟨RB.alloc _,Ai _ _,HY.out _⟩ ?_;clear RB HY;rintro v⟨RV,hyv,HY⟩;have x0:=RV.x0;have x1:=RV.x1;have x2:=RV.x2;have xf:=RV.xf;have u0:v.cell? ⟨w1.heap.size,0,none⟩=some (#[.bool y.l, .slice y.ba y.bn y.bc, .slice y.ia y.m y.ic][0]):=(by rw[Ae _ _ _ _ _ _ hyv];rfl);have u1:v.cell? ⟨w1.heap.size,1,none⟩=some (#[.bool y.l, .slice y.ba y.bn y.bc, .slice y.ia y.m y.ic][1]):=(by rw[Ae _ _ _ _ _ _ hyv];rfl);have u2:v.cell? ⟨w1.heap.size,2,none⟩=some (#[.bool y.l, .slice y.ba y.bn y.bc, .slice y.ia y.m y.ic][2]):=(by rw[Ae _ _ _ _ _ _ hyv];rfl);have HRV:=XaI RV;clear RV hyv;go_wp2_with fail;have hr:=put3 HRV.out.row (.bool y.l) (.slice y.ba y.bn y.bc) (.slice y.ia y.m y.ic);refine Ao (Ez results132 _ _ w.heap.size _ _ _ rfl hr) rfl ?_;refine⟨Ce HRV.out.bel (Aa _) _ _ _,y,rfl,Bz (λb(hb:w.heap.size+1<=b) hlt=>⟨Dn (by omega) _ _ _,by omega⟩) t y HY.out⟩
theorem Iu(K:Nat->Prop)(x:RV)(r:PR)(w:World)(h:RefAt K w x r):
 Calls prog 105 #[.agg x.cells.toArray] w (IPost w (refItemP r)):=by
 have HRI:=XaI (Wj w x h.len);have HH:=XaI h;have HLX:=XaI h.len;obtain⟨res,hres⟩:∃res,refItemP r=res:=⟨_,rfl⟩;rw[hres];unfold refItemP at hres;rw[<-h.1]at hres;have HRES:=XaI hres;clear h hres;go_enter func105,ntmps105;go_upto_region 1 with fail;refine gen_w (p:=λv=>Code.wp _ _ _ _ v) (q:=λv=>Ri w v x) HRI.out ?_;clear HRI;intro v R0;have c0:=R0.bx.c0;have c33:=R0.bx.c33;have HR0:=XaI R0;clear R0;by_cases h1:x.k=1
 ·have hr:=HRES.out;rw[if_pos h1]at hr;have HCD:=XaI (K7 x.a x.n x.c r.i v (HH.out.2.2.2.2.1.at HR0.out.bel) HH.out.2.2.2.2.2.1);have HR:=XaI hr;clear hr HRES;go_wp2_with fail;refine HCD.out.mono ?_;intro e w1 hp;obtain⟨hb1,hp⟩:=hp;have HR1:=XaI (HR0.out.go hb1);have HS0:=XaI HR0.out.sz;have hr:=HR.out;cases hq:decP r.i with
  |bad er=>
   rw[hq]at hp hr;have hr:t0=res:=hr;subst hr;obtain⟨rfl,her⟩:=hp;clear hb1 hq her;go_upto_region 3 with fail;refine gen_w (p:=λv=>Code.wp _ _ _ _ v) (q:=λv=>Ri w v x/\B1 w1.heap.size v ⟨false,none,0,0,none,0,0⟩) ⟨HR1.out.go (below_new w1 _),E5 w1 ⟨false,none,0,0,none,0,0⟩⟩ ?_;rintro v2⟨R2,B2⟩;have x0:=R2.x0;have x1:=R2.x1;have x2:=R2.x2;have xf:=R2.xf;have d0:=B2.c0;have d1:=B2.c1;have d2:=B2.c2;have HR2:=XaI R2;clear R2 B2 c0 c33;go_wp2_with fail;have hr:=put3 HR2.out.row (.bool false) (.slice none 0 0) (.slice none 0 0);refine bodyPost_ret (results_cell_row results105 _ _ (w.heap.size+1) 110 _ (0,0) _ rfl hr underlying110 rfl (by kernel_rfl)) rfl ?_;exact EN (y:=⟨false,none,0,0,none,0,0⟩) HR2.out (II _ _)
  |ok t=>
   rw[hq]at hp hr;have hr:t=res:=hr;subst hr;obtain⟨y,rfl,hy⟩:=hp;have HY:=XaI (show LiesP (λb=>w.heap.size+2<=b) w1 t y from Bz (λb hb hlt=>⟨rfl,by have:=HS0.out;omega⟩) _ _ hy);clear hb1 hq hy;go_upto_region 3 with fail;refine gen_w (p:=λv=>Code.wp _ _ _ _ v) (q:=λv=>Ri w v x/\B1 w1.heap.size v y/\LiesP (λb=>w.heap.size+2<=b) v t y) ⟨HR1.out.go (below_new w1 _),E5 w1 _,Bz (λb hb hlt=>⟨heap_alloc_old _ _ hlt,hb⟩) _ _ HY.out⟩ ?_;rintro v2⟨R2,B2,L2⟩;have x0:=R2.x0;have x1:=R2.x1;have x2:=R2.x2;have xf:=R2.xf;have d0:=B2.c0;have d1:=B2.c1;have d2:=B2.c2;have HR2:=XaI R2;have HL2:=XaI L2;clear R2 B2 L2 c0 c33;go_wp2_with fail;have hr:=put3 HR2.out.row (.bool y.l) (.slice y.ba y.bn y.bc) (.slice y.ia y.m y.ic);refine bodyPost_ret (results_cell_row results105 _ _ (w.heap.size+1) 110 _ (0,0) _ rfl hr underlying110 rfl (by kernel_rfl)) rfl ?_;exact EN HR2.out HL2.out
 ·by_cases h2:x.k=2
  ·have hr:=HRES.out;rw[if_neg h1,if_pos h2]at hr;subst hr;have e1:(x.k==1)=false:=(by simp[h1]);have HS0:=XaI HR0.out.sz;clear c33;go_wp2_with fail;clear c0 e1
   go_loopw [5,6] (λs5 s6 u=>∃j:Nat,j<=32/\s6= .int .i64 j/\OwnB u v.heap.size s5 (r.d.take j)/\Below v.heap.size v u) (λ_ s6 _=>32-(intOf s6).toNat)
   case atStart=>exact⟨0,by omega,rfl,Ni.ownB_nil _ _,Below.refl _ _⟩
   case round=>
    obtain⟨j,hj,rfl,hown,hb⟩:=hrel;have HO:=XaI hown;have HBW:=XaI hb;have HRR:=XaI (HR0.out.go hb);clear hown hb;by_cases hlt:j<32
    ·have hji:(j:Int)<32:=(by omega);have hjd:j<r.d.length:=(by rw[HH.out.2.2.2.1];exact hlt);have hcell:wr.cell? ⟨w.heap.size,1+j,none⟩=some (.int .u8 (r.d.getD j 0)):=by
      have hd:=HRR.out.bx.digest;rw[HH.out.2.1]at hd;exact hd j _ (by rw[List.getElem?_map,List.getD,List.getElem?_eq_getElem hjd];rfl)
     have HN:=XaI (Ni.take_snoc hjd);have HTL:=XaI (show(r.d.take j).length=j from by rw[List.length_take];omega);generalize r.d.getD j 0=z at hcell HN;have HO2:Hid (∀o:Obj,OwnB (wr.alloc o) v.heap.size u5 (r.d.take j)):=XaI λo=>OwnB.alloc HO.out o;have HSZ:=XaI HBW.out.size;clear HO hjd
     go_wp2_with (first
      |(at_builtin;refine D8 rfl (.tmp 24) (.tmp 29) rfl v.heap.size _ (r.d.take j) rfl (HO2.out _) (some ⟨wr.heap.size,0,none⟩) 1 1 [z] rfl (Ni.in0_one wr _) (λh=>by cases h) rfl (by rw[HTL.out];omega) (by have:=HSZ.out;simp;omega) ?_;intro v1 w1 o1 hb1;rw[<-HN.out]at o1;have HO3:=XaI o1;have HB3:=XaI ((HBW.out.alloc HSZ.out _).trans hb1);clear o1 hb1))
     go_roundw
     case rel=>exact⟨j+1,by omega,by simp,HO3.out,HB3.out⟩
     case measure=>simp[intOf];omega
    ·have hji:¬(j:Int)<32:=(by omega);have hbt:r.d.take j=r.d:=List.take_of_length_le (by rw[HH.out.2.2.2.1];omega);rw[hbt]at HO;obtain⟨g,cap,rfl,hg1,hg2,hg3,hg4,hg5⟩:=HO.out.slice (by rw[HH.out.2.2.2.1];omega);have hag:=(HO.out.ag HH.out.2.2.1);obtain⟨aa,cc,hve,hag⟩:=hag;cases hve;have hfz:∀o,wr.frozen? ⟨g,o,none⟩=false:=by
      rcases HO.out.2 with⟨hx,_⟩|⟨g',cap',cur,hx,_,hh,_⟩
      ·cases hx
      ·cases hx;exact λo=>frozen_of_row _ _ _ _ _ hh
     have hld:=HH.out.2.2.2.1;rw[hld]at hag⊢
     have HLY:=XaI (show LiesP (λb=>w.heap.size+2<=b) wr (.mk false r.d []) ⟨false,some ⟨g,0,none⟩,32,cap,none,0,0⟩from
      liesP_eq.2 ⟨⟨rfl,hag,rfl,Nat.le_refl _,Nat.zero_le _,⟨by show 32<=_;omega,Nat.zero_le _⟩,λg' off e _=>by cases e;exact⟨by have:=HS0.out;omega,hfz⟩⟩,Dp⟩)
     have x0:=HRR.out.x0;have x1:=HRR.out.x1;have x2:=HRR.out.x2;have xf:=HRR.out.xf;clear hag hfz hld hbt hg1 hg2 hg3 hg4 hg5;go_wp2_with fail;have hr:=put3 HRR.out.row (.bool false) (.slice (some ⟨g,0,none⟩) 32 cap) (.slice none 0 0);refine bodyPost_ret (results_cell_row results105 _ _ (w.heap.size+1) 110 _ (0,0) _ rfl hr underlying110 rfl (by kernel_rfl)) rfl ?_;exact EN (y:=⟨false,some ⟨g,0,none⟩,32,cap,none,0,0⟩) HRR.out HLY.out
  ·have hr:=HRES.out;rw[if_neg h1,if_neg h2]at hr;subst hr;have e1:(x.k==1)=false:=(by simp[h1]);have e2:(x.k==2)=false:=(by simp[h2]);have x0:=HR0.out.x0;have x1:=HR0.out.x1;have x2:=HR0.out.x2;have xf:=HR0.out.xf;go_wp2_with fail;have hr:=put3 HR0.out.row (.bool false) (.slice none 0 0) (.slice none 0 0);refine bodyPost_ret (results_cell_row results105 _ _ (w.heap.size+1) 110 _ (0,0) _ rfl hr underlying110 rfl (by kernel_rfl)) rfl ?_;exact EN (y:=⟨false,none,0,0,none,0,0⟩) HR0.out (II _ _)
def WalkSaid(t:T):Prop:=∀(x:V)(w:World)(d ww:Nat),Lies w t x->d<=8->ww<=16777215->
 Calls prog 133 #[.agg #[.bool x.l, .slice x.ba x.bn x.bc, .slice x.ia x.m x.ic], .int .i64 d, .int .i64 ww] w λe w'=>e= .returned (.tuple #[.int .i64 ((wk t d ww).1:Nat), .int .i64 ((wk t d ww).2:Nat)])/\Below w.heap.size w w'
set_option maxRecDepth 20000 in
theorem U3(l:Bool)(bs:List Int)(its:List T)(ih:∀t∈its,WalkSaid t):WalkSaid (.mk l bs its):=by
 intro x w d ww hx hd hw;obtain⟨xl,xag,xm,xic,xic2,⟨xbn,xm2⟩,xall⟩:=lies_eq.1 hx;obtain⟨res,hres⟩:∃r,wk (.mk l bs its) d ww=r:=⟨_,rfl⟩;rw[hres];rw[IW]at hres;have HBX:=XaI (E5 w x);have HBN:=XaI (below_new w (.cells #[.bool x.l, .slice x.ba x.bn x.bc, .slice x.ia x.m x.ic] 110));have HX:=XaI (Cg HBN.out _ x hx);have HXM:=XaI xm;have HIH:=XaI ih;have hbl:=xag.l;obtain⟨xl',xba,xbn',xbc,xia,xm',xic'⟩:=x;simp only at xl hbl xm xbn xm2 HBX HBN HX HXM;subst xl;clear hx xag xall ih xic xic2;by_cases h21:xl'=true/\8<=d
 ·obtain⟨rfl,h8⟩:=h21;rw[Af (by simpa using h8)]at hres;subst hres;have h8i:(d:Int)>=8:=by omega
  clear hbl xm;go_enter func133,ntmps133;go_wp2_with fail;go_ret2;exact⟨rfl,HBN.out⟩
 rw[Ad (λh=>h21 (by simpa using h))]at hres;by_cases h23:wrongForm xl' bs its=true
 ·rw[Af h23]at hres;subst hres;cases xl' with
  |true=>
   have hb0:(xbn':Int)>0:=(by unfold wrongForm at h23;simp at h23;omega);have h8i:¬(d:Int)>=8:=(by have:¬8<=d:=λh=>h21 ⟨rfl,h⟩;omega);clear hbl xm h23 h21;go_enter func133,ntmps133;go_wp2_with fail;go_ret2;exact⟨rfl,HBN.out⟩
  |false=>
   have hb0:(xm':Int)>0:=(by unfold wrongForm at h23;simp at h23;omega);clear hbl xm h23 h21;go_enter func133,ntmps133;go_wp2_with fail;go_ret2;exact⟨rfl,HBN.out⟩
 rw[Ad h23]at hres;have HRES:=XaI hres;clear hres;have hwf:=EL (by simpa using h23);have hz:(xl'=true->xbn'=0)/\(xl'=false->xm'=0):=by
  cases xl' with
  |true=>
   have e:bs=[]:=(by simpa using hwf);rw[e]at hbl;exact⟨λ_=>hbl.symm,λh=>Bool.noConfusion h⟩
  |false=>
   have e:its=[]:=(by simpa using hwf);rw[e]at xm;exact⟨λh=>Bool.noConfusion h,λ_=>xm⟩
 have hwt:wt xl' bs d=if xl'&&decide (d=0)then 0 else max xbn' 1:=by rw[<-hbl];unfold wt;by_cases h0:d=0<;>simp[h0]
 have hd8:xl'=true->¬8<=d:=λh h8=>h21 ⟨h,h8⟩;rw[hwt]at HRES;obtain⟨W0,hW0⟩:∃W0,ww+(if xl'&&decide (d=0)then 0 else max xbn' 1)=W0:=⟨_,rfl⟩;rw[hW0]at HRES;have hW0b:W0<=16777215+140737488351232:=by rw[<-hW0];split<;>omega
 have HH:=XaI hW0;have HD8:=XaI hd8;obtain⟨W,hW⟩:∃W,w.alloc (.cells #[.bool xl', .slice xba xbn' xbc, .slice xia xm' xic'] 110)=W:=⟨_,rfl⟩;have HWW:=XaI hW;have hch:Hid (∀v,Below W.heap.size W v->B1 w.heap.size v ⟨xl',xba,xbn',xbc,xia,xm',xic'⟩):=XaI λv hb=>by rw[hW]at HBX;exact HBX.out.go hb
 rw[hW]at HBX HBN HX;clear hbl xm h23 h21 hwf hwt hd8 hW0 hW;cases xl' with
 |false=>
  have hm0:=hz.2 rfl;subst hm0;have hh:=HH.out;rw[Ad (by simp)]at hh;clear hz;by_cases hb1:1<xbn'
  ·have hbi:(xbn':Int)>1:=(by omega);have hsum:(ww:Int)+xbn'=W0:=(by omega);clear hh;by_cases hlong:16777215<W0
   ·have hli:(W0:Int)>16777215:=(by omega);have hr:=HRES.out;rw[Af hlong]at hr;subst hr;go_enter func133,ntmps133;go_wp2_with fail;go_ret2;exact⟨rfl,by rw[HWW.out];exact HBN.out⟩
   have hli:¬(W0:Int)>16777215:=(by omega);have hr:=HRES.out;rw[Ad hlong]at hr;have HR2:=XaI hr;clear hr HRES;go_enter func133,ntmps133;go_wp2_with fail;rw[HWW.out]
   go_loopw [2,8] (λp q v=>∃(u cur:Nat),u<=0/\q= .int .i64 u/\p= .int .i64 cur/\wks (its.take u) (d+1) W0=(cur,0)/\cur<=16777215/\Below W.heap.size W v) (λ_ q _=>0-(intOf q).toNat)
   case atStart=>exact⟨0,W0,by omega,rfl,rfl,by rw[BD,Ej],by omega,Ak _ _⟩
   case round=>
    obtain⟨u,cur,hu,rfl,rfl,hcur,hcb,hbv⟩:=hrel;obtain⟨c0,c1,c2⟩:=hch.out _ hbv;simp only at c0 c1 c2;have HBV:=XaI hbv;have HCU:=XaI hcur;clear hbv hcur;have hui:¬(u:Int)<0:=(by omega);have hr:=HR2.out;rw[<-A5 (l:=its) (i:=u) (by rw[<-HXM.out];omega),HCU.out]at hr;subst hr;go_wp2_with fail;go_ret2;exact⟨rfl,below_go HBN.out HBV.out⟩
  ·have hbi:¬(xbn':Int)>1:=(by omega);have hsum:(ww:Int)+1=W0:=(by omega);clear hh;by_cases hlong:16777215<W0
   ·have hli:(W0:Int)>16777215:=(by omega);have hr:=HRES.out;rw[Af hlong]at hr;subst hr;go_enter func133,ntmps133;go_wp2_with fail;go_ret2;exact⟨rfl,by rw[HWW.out];exact HBN.out⟩
   have hli:¬(W0:Int)>16777215:=(by omega);have hr:=HRES.out;rw[Ad hlong]at hr;have HR2:=XaI hr;clear hr HRES;go_enter func133,ntmps133;go_wp2_with fail;rw[HWW.out]
   go_loopw [2,8] (λp q v=>∃(u cur:Nat),u<=0/\q= .int .i64 u/\p= .int .i64 cur/\wks (its.take u) (d+1) W0=(cur,0)/\cur<=16777215/\Below W.heap.size W v) (λ_ q _=>0-(intOf q).toNat)
   case atStart=>exact⟨0,W0,by omega,rfl,rfl,by rw[BD,Ej],by omega,Ak _ _⟩
   case round=>
    obtain⟨u,cur,hu,rfl,rfl,hcur,hcb,hbv⟩:=hrel;obtain⟨c0,c1,c2⟩:=hch.out _ hbv;simp only at c0 c1 c2;have HBV:=XaI hbv;have HCU:=XaI hcur;clear hbv hcur;have hui:¬(u:Int)<0:=(by omega);have hr:=HR2.out;rw[<-A5 (l:=its) (i:=u) (by rw[<-HXM.out];omega),HCU.out]at hr;subst hr;go_wp2_with fail;go_ret2;exact⟨rfl,below_go HBN.out HBV.out⟩
 |true=>
  have hm0:=hz.1 rfl;subst hm0;have hh:=HH.out;have h8i:¬(d:Int)>=8:=by have:=HD8.out rfl;omega
  clear hz;by_cases hd0:d=0
  ·rw[Af (by simp[hd0])]at hh;have hsum:(ww:Int)=W0:=(by omega);have hdi:¬(d:Int)>0:=(by omega);clear hh hd0;have hlong:¬16777215<W0:=(by omega);have hli:¬(W0:Int)>16777215:=(by omega);have hr:=HRES.out;rw[Ad hlong]at hr;have HR2:=XaI hr;clear hr HRES;go_enter func133,ntmps133;go_wp2_with fail;rw[HWW.out]
   go_loopw [2,8] (λp q v=>∃(u cur:Nat),u<=xm'/\q= .int .i64 u/\p= .int .i64 cur/\wks (its.take u) (d+1) W0=(cur,0)/\cur<=16777215/\Below W.heap.size W v) (λ_ q _=>xm'-(intOf q).toNat)
   case atStart=>exact⟨0,W0,by omega,rfl,rfl,by rw[BD,Ej],by omega,Ak _ _⟩
   case round=>
    obtain⟨u,cur,hu,rfl,rfl,hcur,hcb,hbv⟩:=hrel;obtain⟨c0,c1,c2⟩:=hch.out _ hbv;simp only at c0 c1 c2;have HBV:=XaI hbv;have HCU:=XaI hcur;clear hbv hcur;by_cases hlt:u<xm'
    case pos=>
     have hui:(u:Int)<xm':=(by omega);obtain⟨t,ht⟩:∃t,its[u]?=some t:=⟨its[u]'(by have:=HXM.out;omega),Ac _⟩;obtain⟨g,off,y,A⟩:=DX (lies_eq.1 HX.out).2.2.2.2.2.2 u t ht;rw[AD]at A;have ha:xia=some ⟨g,off,none⟩:=A.ha;subst ha;have y0:=AM HBV.out A.c0;have y1:=AM HBV.out A.c1;have y2:=AM HBV.out A.c2;have hdd:=HD8.out (by simp);have hcal:=HIH.out t (AK ht) y wr (d+1) cur (Cg HBV.out t y A.li) (by omega) hcb;rw[show((d+1:Nat):Int)=(d:Int)+1 from by omega]at hcal;have HC:=XaI hcal;have HT:=XaI ht;have hbnd:=Lq (t:=t) (d:=d+1) (w:=cur) (by omega) hcb;clear hcal ht A;go_wp2_with fail;refine HC.out.mono ?_;rintro e w1⟨rfl,hb1⟩;have HB1:=XaI (below_go HBV.out hb1);clear hb1 HC;by_cases h0:(wk t (d+1) cur).2=0
     ·have hb0:=hbnd h0;have hmore:=Lo HT.out HCU.out h0;rw[h0];obtain⟨c3,hc3⟩:∃c3,(wk t (d+1) cur).1=c3:=⟨_,rfl⟩;rw[hc3]at hb0 hmore⊢;rw[show((0:Nat):Int)=0 from rfl];have HMO:=XaI hmore;clear hbnd hmore h0 hc3;go_wp2_with fail;exact⟨⟨u+1,c3,by omega,by simp,rfl,HMO.out,by omega,HB1.out⟩,by simp[intOf];omega⟩
     ·have hfail:=Lp HT.out HCU.out h0;rw[HR2.out]at hfail;subst hfail;obtain⟨c3,hc3⟩:∃c3,(wk t (d+1) cur).1=c3:=⟨_,rfl⟩;obtain⟨e3,he3⟩:∃e3,(wk t (d+1) cur).2=e3:=⟨_,rfl⟩;rw[he3]at h0;rw[hc3,he3];have hee:((e3:Int) !=0)=true:=(by rw[BL];omega);clear hbnd h0;go_wp2_with fail;go_ret2;exact⟨by rw[hc3,he3];rfl,below_go HBN.out HB1.out⟩
    have hui:¬(u:Int)<xm':=(by omega);have hr:=HR2.out;rw[<-A5 (l:=its) (i:=u) (by rw[<-HXM.out];omega),HCU.out]at hr;subst hr;go_wp2_with fail;go_ret2;exact⟨rfl,below_go HBN.out HBV.out⟩
  ·have hdi:(d:Int)>0:=(by omega);rw[Ad (by simp[hd0])]at hh;have hsum:(ww:Int)+1=W0:=(by omega);clear hh;by_cases hlong:16777215<W0
   ·have hli:(W0:Int)>16777215:=(by omega);have hr:=HRES.out;rw[Af hlong]at hr;subst hr;go_enter func133,ntmps133;go_wp2_with fail;go_ret2;exact⟨rfl,by rw[HWW.out];exact HBN.out⟩
   have hli:¬(W0:Int)>16777215:=(by omega);have hr:=HRES.out;rw[Ad hlong]at hr;have HR2:=XaI hr;clear hr HRES;go_enter func133,ntmps133;go_wp2_with fail;rw[HWW.out]
   go_loopw [2,8] (λp q v=>∃(u cur:Nat),u<=xm'/\q= .int .i64 u/\p= .int .i64 cur/\wks (its.take u) (d+1) W0=(cur,0)/\cur<=16777215/\Below W.heap.size W v) (λ_ q _=>xm'-(intOf q).toNat)
   case atStart=>exact⟨0,W0,by omega,rfl,rfl,by rw[BD,Ej],by omega,Ak _ _⟩
   case round=>
    obtain⟨u,cur,hu,rfl,rfl,hcur,hcb,hbv⟩:=hrel;obtain⟨c0,c1,c2⟩:=hch.out _ hbv;simp only at c0 c1 c2;have HBV:=XaI hbv;have HCU:=XaI hcur;clear hbv hcur;by_cases hlt:u<xm'
    case pos=>
     have hui:(u:Int)<xm':=(by omega);obtain⟨t,ht⟩:∃t,its[u]?=some t:=⟨its[u]'(by have:=HXM.out;omega),Ac _⟩;obtain⟨g,off,y,A⟩:=DX (lies_eq.1 HX.out).2.2.2.2.2.2 u t ht;rw[AD]at A;have ha:xia=some ⟨g,off,none⟩:=A.ha;subst ha;have y0:=AM HBV.out A.c0;have y1:=AM HBV.out A.c1;have y2:=AM HBV.out A.c2;have hdd:=HD8.out (by simp);have hcal:=HIH.out t (AK ht) y wr (d+1) cur (Cg HBV.out t y A.li) (by omega) hcb;rw[show((d+1:Nat):Int)=(d:Int)+1 from by omega]at hcal;have HC:=XaI hcal;have HT:=XaI ht;have hbnd:=Lq (t:=t) (d:=d+1) (w:=cur) (by omega) hcb;clear hcal ht A;go_wp2_with fail;refine HC.out.mono ?_;rintro e w1⟨rfl,hb1⟩;have HB1:=XaI (below_go HBV.out hb1);clear hb1 HC;by_cases h0:(wk t (d+1) cur).2=0
     ·have hb0:=hbnd h0;have hmore:=Lo HT.out HCU.out h0;rw[h0];obtain⟨c3,hc3⟩:∃c3,(wk t (d+1) cur).1=c3:=⟨_,rfl⟩;rw[hc3]at hb0 hmore⊢;rw[show((0:Nat):Int)=0 from rfl];have HMO:=XaI hmore;clear hbnd hmore h0 hc3;go_wp2_with fail;exact⟨⟨u+1,c3,by omega,by simp,rfl,HMO.out,by omega,HB1.out⟩,by simp[intOf];omega⟩
     ·have hfail:=Lp HT.out HCU.out h0;rw[HR2.out]at hfail;subst hfail;obtain⟨c3,hc3⟩:∃c3,(wk t (d+1) cur).1=c3:=⟨_,rfl⟩;obtain⟨e3,he3⟩:∃e3,(wk t (d+1) cur).2=e3:=⟨_,rfl⟩;rw[he3]at h0;rw[hc3,he3];have hee:((e3:Int) !=0)=true:=(by rw[BL];omega);clear hbnd h0;go_wp2_with fail;go_ret2;exact⟨by rw[hc3,he3];rfl,below_go HBN.out HB1.out⟩
    have hui:¬(u:Int)<xm':=(by omega);have hr:=HR2.out;rw[<-A5 (l:=its) (i:=u) (by rw[<-HXM.out];omega),HCU.out]at hr;subst hr;go_wp2_with fail;go_ret2;exact⟨rfl,below_go HBN.out HBV.out⟩
theorem WN:∀t,WalkSaid t:=T.ind U3
theorem FE(base n:Nat)(hb:base<=192)(hn:n<16777216)(w:World):
 Calls prog 144 #[.int .i64 base, .int .i64 n] w λe w'=>e= .returned (.slice (some ⟨w.heap.size,0,none⟩) (hd base n).length (hd base n).length)/\Row w.heap.size w' (hd base n)/\Below w.heap.size w w':=by
 by_cases h5:n<=55
 ·have e:hd base n=[((base+n:Nat):Int)]:=by unfold hd;rw[Af h5]
  rw[e];have hi:(n:Int)<=55:=by omega
  clear e;go_enter func144,ntmps144;go_wp2_with fail;go_ret;exact⟨rfl,by unfold Row;rw[Ai];simp,(Ak _ _).alloc (Aa _) _⟩
 have h5i:¬(n:Int)<=55:=by omega
 by_cases h6:n<256
 ·have e:hd base n=[((base+56:Nat):Int),(n:Int)]:=by
   unfold hd;rw[Ad h5,Vs (by omega) h6,NZ (by omega) h6]
  rw[e];have hi:(n:Int)<256:=by omega
  clear e;go_enter func144,ntmps144;go_wp2_with fail;go_ret;exact⟨rfl,by unfold Row;rw[Ai];simp,(Ak _ _).alloc (Aa _) _⟩
 have h6i:¬(n:Int)<256:=by omega
 by_cases h7:n<65536
 ·have e:hd base n=[((base+57:Nat):Int),((n/256:Nat):Int),((n%256:Nat):Int)]:=by
   unfold hd;rw[Ad h5,Vt (by omega) h7,Oa (by omega) h7]
  rw[e];have hi:(n:Int)<65536:=by omega
  have q1:(n:Int)/256<256:=by omega
  clear e;go_enter func144,ntmps144;go_wp2_with fail;go_ret;exact⟨rfl,by unfold Row;rw[Ai];simp,(Ak _ _).alloc (Aa _) _⟩
 have h7i:¬(n:Int)<65536:=by omega
 have e:hd base n=[((base+58:Nat):Int),((n/65536:Nat):Int),((n/256%256:Nat):Int),((n%256:Nat):Int)]:=by
  unfold hd;rw[Ad h5,Vu (by omega) hn,IV (by omega) hn]
 rw[e];have q1:(n:Int)/65536<256:=by omega
 clear e;go_enter func144,ntmps144;go_wp2_with fail;go_ret;exact⟨rfl,by unfold Row;rw[Ai];simp,(Ak _ _).alloc (Aa _) _⟩
theorem U4(w:World)(base:Nat):OwnB w base (.slice none 0 0) []:=⟨rfl, .inl ⟨rfl,rfl⟩⟩
theorem YD{g:Nat}{bs:List Int}(h:Row g w bs)(base:Nat)(hb:base<=g)(hl:bs.length<=1000):OwnB w base (.slice (some ⟨g,0,none⟩) bs.length bs.length) bs:=by
 refine⟨by rw[Ba,Cl], .inr ⟨g,bs.length,_,rfl,hb,h,Aa _,by unfold maxLen;omega,by simp,by rw[Cl];exact A5 (by simp)⟩⟩
theorem OB(h:n<16777216):(hd base n).length<=4:=by
 rw[hd_len];have:=G4 h;split<;>omega
theorem Xaq(hb:base<=192)(hn:n<16777216):∀z∈hd base n,0<=z/\z<256:=by
 have h3:=G4 hn;unfold hd;split
 ·intro z hz;have e:z=((base+n:Nat):Int):=by simpa using hz
  omega
 ·intro z hz;rcases A3.1 hz with e|hz
  ·omega
  ·exact MP n z hz
def Nw(base:Nat)(a:Option Addr):Prop:=∀g off,a=some ⟨g,off,none⟩->base<=g
theorem OwnB.agn{v:Value}{bs:List Int}(h:OwnB w base v bs)(hb:∀x∈bs,0<=x/\x<256):∃a cap,v= .slice a bs.length cap/\Ag w a bs.length cap bs/\Nw base a:=by
 obtain⟨a,cap,e,hag⟩:=OwnB.ag h hb;refine⟨a,cap,e,hag,λg off ha=>?_⟩;subst ha;rw[e]at h;exact OwnB.lt h g rfl
theorem Nw.mono{b b':Nat}{a:Option Addr}(h:Nw b a)(hb:b'<=b):Nw b' a:=λg off e=>Al hb (h g off e)
def BytesSaid(t:T):Prop:=∀(x:V)(w:World),Lies w t x->(bodyOf t).length<=16777215->
 Calls prog 135 #[.agg #[.bool x.l, .slice x.ba x.bn x.bc, .slice x.ia x.m x.ic]] w λe w'=>(∃a n c,e= .returned (.slice a n c)/\Ag w' a n c (enc t)/\(x.l=true->Nw w.heap.size a))/\Below w.heap.size w w'
structure Gb(W:World)(B:Nat)(bs:List Int)(its:List T)(j:Nat)(q:Value)(v:World)(cur:List Int):Prop where
 own:OwnB v B q cur
 eq:cur=bs++encs (its.take j)
 bel:Below B W v
 by8:∀x∈cur,0<=x/\x<256
theorem Rp(l:Bool)(bs:List Int)(its:List T)(ih:∀t∈its,BytesSaid t)(x:V)(w:World)(hx:Lies w (.mk l bs its) x)(hlen:(bs++encs its).length<=16777215):
 Calls prog 145 #[.agg #[.bool x.l, .slice x.ba x.bn x.bc, .slice x.ia x.m x.ic]] w λe w'=>(∃a n c,e= .returned (.slice a n c)/\Ag w' a n c (bs++encs its))/\Below w.heap.size w w':=by
 obtain⟨xl,xag,xm,xic,xic2,⟨xbn,xm2⟩,xall⟩:=lies_eq.1 hx;have HBN:=XaI (below_new w (.cells #[.bool x.l, .slice x.ba x.bn x.bc, .slice x.ia x.m x.ic] 110));have HBX:=XaI (E5 w x);have HX:=XaI (Cg HBN.out _ x hx);have HAG:=XaI (xag.at HBN.out);have HXM:=XaI xm;have HIH:=XaI ih;have HLEN:=XaI hlen;have hbl:=xag.l;rw[Ab]at hlen;obtain⟨W,hW⟩:∃W,w.alloc (.cells #[.bool x.l, .slice x.ba x.bn x.bc, .slice x.ia x.m x.ic] 110)=W:=⟨_,rfl⟩;have hsz:W.heap.size=w.heap.size+1:=by rw[<-hW];simp
 have HWW:=XaI hW;rw[hW]at HBN HBX HX HAG;clear hx xag xall xm xl ih xic xic2 hW;obtain⟨xl,xba,xbn',xbc,xia,xm',xic'⟩:=x;simp only at xbn xm2 HBX HX HAG HXM hbl HWW;obtain⟨c0,c1,c2⟩:=HBX.out;simp only at c0 c1 c2;go_enter func145,ntmps145;go_upto_region 2 with fail;rw[HWW.out];go_wp2_with (first|(at_builtin;refine D8 rfl (.tmp 5) (.tmp 7) rfl W.heap.size _ [] rfl (U4 W _) xba xbn' xbc bs rfl HAG.out.i HAG.out.nil HAG.out.l (by simp;omega) (Aa _) ?_;intro v1 w1 o1 hb1;rw[A6]at o1;have HO1:=XaI o1;have HB1:=XaI hb1;clear o1 hb1))
 go_loopw [3,4] (λq i v=>∃(j:Nat)(cur:List Int),j<=xm'/\i= .int .i64 j/\Gb W W.heap.size bs its j q v cur) (λ_ i _=>xm'-(intOf i).toNat)
 case atStart=>exact⟨0,bs,by omega,rfl,⟨HO1.out,by rw[BD,Cq,Az],HB1.out,HAG.out.b⟩⟩
 case round=>
  clear HO1 HB1;obtain⟨j,cur,hj,rfl,G⟩:=hrel;obtain⟨d0,d1,d2⟩:=HBX.out.go G.bel;simp only at d0 d1 d2;have HG:=XaI G;clear G;by_cases hlt:j<xm'
  ·have hji:(j:Int)<xm':=(by omega);obtain⟨t,ht⟩:∃t,its[j]?=some t:=⟨its[j]'(by have:=HXM.out;omega),Ac _⟩;obtain⟨g,off,y,A⟩:=DX (lies_eq.1 HX.out).2.2.2.2.2.2 j t ht;rw[AD]at A;have ha:xia=some ⟨g,off,none⟩:=A.ha;subst ha;have y0:=AM HG.out.bel A.c0;have y1:=AM HG.out.bel A.c1;have y2:=AM HG.out.bel A.c2;have hmem:=AK ht;have a1:=Fl t;have a2:=Fn hmem;have hcal:=HIH.out t hmem y wr (Cg HG.out.bel t y A.li) (by omega);have hcl:(cur++enc t).length<=16777215:=by
    rw[HG.out.eq,AE];have e1:encs (its.take (j+1))=encs (its.take j)++enc t:=(by rw[DJ ht,EJ,C7,Cq,Az]);have e2:(encs (its.take (j+1)++its.drop (j+1))).length=(encs its).length:=(by rw[Bf]);rw[EJ,Ab,e1,Ab]at e2;rw[Ab,Ab];omega
   rw[Ab]at hcl;have HC:=XaI hcal;have HT:=XaI ht;clear hcal ht A a1 a2 hmem;go_wp2_with fail;refine HC.out.mono ?_;rintro e w1⟨⟨a1,n1,c1',rfl,hag1,-⟩,hb1⟩;have hl1:=hag1.l;have HA1:=XaI hag1;have HO1:=XaI (HG.out.own.below hb1);have hbb:=HG.out.bel.trans (hb1.mono HG.out.bel.size);have HB1:=XaI hbb;have HMEM:=XaI (KC HG.out.by8 hag1.b);clear hag1 hb1 hbb HC d0 d1 d2 c0 c1 c2;go_wp2_with (first|(at_builtin;refine D8 rfl (.tmp 16) (.tmp 22) rfl W.heap.size _ cur rfl HO1.out a1 n1 c1' (enc t) rfl HA1.out.i HA1.out.nil HA1.out.l (by omega) HB1.out.size ?_;intro v2 w2 o2 hb2;obtain⟨a2,c2',rfl,hag2⟩:=OwnB.ag o2 HMEM.out;have HO2:=XaI o2;have HB2:=XaI (HB1.out.trans hb2);clear o2 hb2 hag2;generalize hgl:(cur++enc t).length=len2 at HO2⊢;clear hgl));refine⟨⟨j+1,cur++enc t,by omega,by simp,⟨HO2.out,?_,HB2.out,HMEM.out⟩⟩,by simp[intOf];omega⟩;rw[HG.out.eq,DJ HT.out,EJ,C7,Cq,Az,AE]
  ·have hji:¬(j:Int)<xm':=(by omega);have htk:its.take j=its:=A5 (by rw[<-HXM.out];omega);have heq:=HG.out.eq;rw[htk]at heq;subst heq;obtain⟨ba,bc,hq,hagb⟩:=OwnB.ag HG.out.own HG.out.by8;subst hq;have HAB:=XaI hagb;obtain⟨L,hL⟩:∃L,(bs++encs its).length=L:=⟨_,rfl⟩;rw[hL]at HAB⊢;clear hagb htk hL;go_wp2_with fail;go_ret;exact⟨⟨_,_,_,rfl,HAB.out⟩,HBN.out.trans (HG.out.bel.mono (by omega))⟩
theorem PW(l:Bool)(bs:List Int)(its:List T)(ih:∀t∈its,BytesSaid t):BytesSaid (.mk l bs its):=by
 intro x w hx hlen;have hlen2:(bs++encs its).length<=16777215:=hlen;have xl:=(lies_eq.1 hx).1;have HBN:=XaI (below_new w (.cells #[.bool x.l, .slice x.ba x.bn x.bc, .slice x.ia x.m x.ic] 110));have HBX:=XaI (E5 w x);have hcal:=Rp l bs its ih x _ (Cg HBN.out _ x hx) hlen2;have HC:=XaI hcal;have henc:=Ef l bs its;obtain⟨body,hbody⟩:∃body,bs++encs its=body:=⟨_,rfl⟩;rw[hbody]at HC henc hlen2;obtain⟨E,hE⟩:∃E,enc (.mk l bs its)=E:=⟨_,rfl⟩;rw[hE];rw[hE]at henc;have HEN:=XaI henc;obtain⟨xl',xba,xbn,xbc,xia,xm,xic⟩:=x;simp only at xl HC HBX HBN;subst xl;clear hx hcal henc hbody hlen ih hE;go_enter func135,ntmps135;go_wp2_with fail;refine HC.out.mono ?_;rintro e w1⟨⟨a1,n1,c1,rfl,hag1⟩,hb1⟩;obtain⟨d0,d1,d2⟩:=HBX.out.go hb1;simp only at d0 d1 d2;have HB1:=XaI (below_go HBN.out hb1);have hl1:=hag1.l;have HA1:=XaI hag1;have hfull:∀(base:Nat),base=baseOf xl'->base<=192->∀w2,Below w1.heap.size w1 w2->Row w1.heap.size w2 (hd base n1)->OwnB w2 w1.heap.size (.slice (some ⟨w1.heap.size,0,none⟩) (hd base n1).length (hd base n1).length) (hd base n1)/\(hd base n1).length<=4/\∀z∈hd base n1++body,0<=z/\z<256:=by
  intro base _ hb w2 _ hrow;have h4:=OB (base:=base) (n:=n1) (by omega);exact⟨YD hrow _ (Aa _) (by omega),h4,KC (Xaq hb (by omega)) hag1.b⟩
 have HF:=XaI hfull;clear hag1 hb1 HC hfull HBX HBN;have hn24:n1<16777216:=by omega
 by_cases hbare:bare xl' body=true
 ·have hbr:=hbare;unfold bare at hbr;simp only[BJ,CP]at hbr;obtain⟨b1,b2,b3⟩:=hbr;have bx:xl'=false:=by simpa using b1
  subst bx;have hn1:n1=1:=by omega
  subst hn1;have HRE:Hid (E=body):=XaI (by rw[HEN.out,Af hbare]);obtain⟨g,off,rfl,hc1,hc2,hc⟩:=ag_head HA1.out (by omega);unfold maxLen at hc2;have hc0:=hc 0 (by omega);rw[C5]at hc0;have hh:body.getD 0 0=body.headD 0:=by cases body<;>rfl
  have hz:=(HA1.out.b (body.getD 0 0) (by rw[List.getD,Ac (by omega)];exact Bo _)).1;rw[<-hh]at b3;generalize body.getD 0 0=z at*;clear hc hbare b1 b2 hh hl1;go_wp2_with fail;go_ret;exact⟨⟨_,_,_,rfl,by rw[HRE.out];exact HA1.out,by first|exact(λh=>by cases h)|simp⟩,HB1.out⟩
 cases xl' with
 |true=>
  have HRE:Hid (E=hd 192 n1++body):=XaI (by rw[HEN.out,Ad hbare,hl1];rfl);clear hbare hl1;go_wp2_with fail;refine(FE 192 n1 (by decide) (by omega) _).mono ?_;rintro e w2⟨rfl,hrow,hb2⟩;obtain⟨o2,h4,h256⟩:=HF.out 192 rfl (by decide) w2 hb2 hrow;have HO2:=XaI o2;have H256:=XaI h256;have HA2:=XaI (HA1.out.at hb2);have HB2:=XaI (below_go HB1.out hb2);have hz:=HB1.out.size;have hz2:=hb2.size;obtain⟨K,hK⟩:∃K,(hd 192 n1).length=K:=⟨_,rfl⟩;rw[hK]at HO2 h4⊢;have HKK:=XaI hK;clear o2 h256 hrow hb2 hK;go_wp2_with (first|(at_builtin;refine D8 rfl (.tmp 29) (.tmp 30) rfl w1.heap.size _ (hd 192 n1) rfl HO2.out _ n1 c1 body rfl HA2.out.i HA2.out.nil HA2.out.l (by rw[HKK.out];omega) hz2 ?_;intro v3 w3 o3 hb3;obtain⟨a3,c3,rfl,hag3,hnw3⟩:=OwnB.agn o3 H256.out;have HNW:=XaI (hnw3.mono hz);have HA3:=XaI hag3;have HB3:=XaI (HB2.out.trans (hb3.mono hz));clear o3 hag3 hb3 hnw3;generalize hgl:(hd 192 n1++body).length=len3 at HA3⊢;clear hgl));go_ret;exact⟨⟨_,_,_,rfl,by rw[HRE.out];exact HA3.out,by first|exact HNW.out|exact λ_=>HNW.out⟩,HB3.out⟩
 |false=>
  have HRE:Hid (E=hd 128 n1++body):=XaI (by rw[HEN.out,Ad hbare,hl1];rfl);by_cases hn1:n1=1
  ·have hnb:((n1:Int)==1)=true:=(by rw[DM];omega);have hnp:0<n1:=(by omega);obtain⟨g,off,rfl,hc1,hc2,hc⟩:=ag_head HA1.out (by omega);unfold maxLen at hc2;have hc0:=hc 0 (by omega);rw[C5]at hc0;have hh:body.getD 0 0=body.headD 0:=(by cases body<;>rfl);have hz:=(HA1.out.b (body.getD 0 0) (by rw[List.getD,Ac (by omega)];exact Bo _)).2;have hge:¬body.getD 0 0<128:=λh=>hbare (by unfold bare;rw[<-hh,AU h,AU (show body.length=1 by omega)];rfl);generalize body.getD 0 0=z at*;clear hc hbare hh hl1 hn1;go_wp2_with fail;refine(FE 128 n1 (by decide) (by omega) _).mono ?_;rintro e w2⟨rfl,hrow,hb2⟩;obtain⟨o2,h4,h256⟩:=HF.out 128 rfl (by decide) w2 hb2 hrow;have HO2:=XaI o2;have H256:=XaI h256;have HA2:=XaI (HA1.out.at hb2);have HB2:=XaI (below_go HB1.out hb2);have hz:=HB1.out.size;have hz2:=hb2.size;obtain⟨K,hK⟩:∃K,(hd 128 n1).length=K:=⟨_,rfl⟩;rw[hK]at HO2 h4⊢;have HKK:=XaI hK;clear o2 h256 hrow hb2 hK;go_wp2_with (first|(at_builtin;refine D8 rfl (.tmp 29) (.tmp 30) rfl w1.heap.size _ (hd 128 n1) rfl HO2.out _ n1 c1 body rfl HA2.out.i HA2.out.nil HA2.out.l (by rw[HKK.out];omega) hz2 ?_;intro v3 w3 o3 hb3;obtain⟨a3,c3,rfl,hag3⟩:=OwnB.ag o3 H256.out;have HA3:=XaI hag3;have HB3:=XaI (HB2.out.trans (hb3.mono hz));clear o3 hag3 hb3;generalize hgl:(hd 128 n1++body).length=len3 at HA3⊢;clear hgl));go_ret;exact⟨⟨_,_,_,rfl,by rw[HRE.out];exact HA3.out,by first|exact(λh=>by cases h)|simp⟩,HB3.out⟩
  ·have hnb:((n1:Int)==1)=false:=(by rw[BB];omega);clear hbare hl1;go_wp2_with fail;refine(FE 128 n1 (by decide) (by omega) _).mono ?_;rintro e w2⟨rfl,hrow,hb2⟩;obtain⟨o2,h4,h256⟩:=HF.out 128 rfl (by decide) w2 hb2 hrow;have HO2:=XaI o2;have H256:=XaI h256;have HA2:=XaI (HA1.out.at hb2);have HB2:=XaI (below_go HB1.out hb2);have hz:=HB1.out.size;have hz2:=hb2.size;obtain⟨K,hK⟩:∃K,(hd 128 n1).length=K:=⟨_,rfl⟩;rw[hK]at HO2 h4⊢;have HKK:=XaI hK;clear o2 h256 hrow hb2 hK;go_wp2_with (first|(at_builtin;refine D8 rfl (.tmp 29) (.tmp 30) rfl w1.heap.size _ (hd 128 n1) rfl HO2.out _ n1 c1 body rfl HA2.out.i HA2.out.nil HA2.out.l (by rw[HKK.out];omega) hz2 ?_;intro v3 w3 o3 hb3;obtain⟨a3,c3,rfl,hag3⟩:=OwnB.ag o3 H256.out;have HA3:=XaI hag3;have HB3:=XaI (HB2.out.trans (hb3.mono hz));clear o3 hag3 hb3;generalize hgl:(hd 128 n1++body).length=len3 at HA3⊢;clear hgl));go_ret;exact⟨⟨_,_,_,rfl,by rw[HRE.out];exact HA3.out,by first|exact(λh=>by cases h)|simp⟩,HB3.out⟩
theorem Rq:∀t,BytesSaid t:=T.ind PW
mutual
def rsz:T->Nat
 | .mk l bs its=>if bare l bs then 1 else if 16777215<(if l then 0 else bs.length)+rszs its then(if l then 0 else bs.length)+rszs its else szOf true [] ((if l then 0 else bs.length)+rszs its)
def rszs:List T->Nat
 |[]=>0
 |t::r=>rsz t+rszs r
end
theorem WO(l:Bool)(bs:List Int)(its:List T):rsz (.mk l bs its)=if bare l bs then 1 else if 16777215<(if l then 0 else bs.length)+rszs its then(if l then 0 else bs.length)+rszs its else szOf true [] ((if l then 0 else bs.length)+rszs its):=by rw[rsz]
theorem FT:rszs []=0:=by rw[rszs]
theorem Iw(t:T)(r:List T):rszs (t::r)=rsz t+rszs r:=by rw[rszs]
theorem He:∀a b:List T,rszs (a++b)=rszs a+rszs b
 |[],b=>by rw[FT];simp
 |t::r,b=>by rw[Ca,Iw,Iw,He r b];omega
theorem Nx{its:List T}{k:Nat}{t:T}(h:its[k]?=some t):rszs (its.take (k+1))=rszs (its.take k)+rsz t:=by
 rw[DJ h,He,Iw,FT];rfl
def Like(a b:Nat):Prop:=a=b∨(16777215<a/\16777215<b/\a<=b)
theorem Iy:∀{its:List T},(∀t∈its,Like (rsz t) (sz t))->Like (rszs its) (szs its)
 |[],_=>by rw[FT,Fv];exact .inl rfl
 |t::r,h=>by
  rw[Iw,Gl];have h1:=h t (Cn ..);have h2:=Iy λu hu=>h u (AB _ hu);unfold Like at*;omega
theorem Ny(n:Nat):szOf true [] n=1+n+(if 55<n then nb n else 0):=by unfold szOf bare;simp
theorem PX:∀t,form t=true->Like (rsz t) (sz t):=by
 refine T.ind λl bs its ih h=>?_;rw[WO,Sl];cases l with
 |false=>
  have hi:=Ed h;subst hi;rw[FT,Fv];simp only[BT,DQ,C5];by_cases hb:bare false bs=true
  ·rw[Af hb];unfold szOf;rw[Af hb];unfold bare at hb;simp only[BJ,CP]at hb;exact .inl hb.2.1.symm
  ·rw[Ad hb];have e:szOf false bs bs.length=szOf true [] bs.length:=(by rw[Ny];unfold szOf;rw[Ad hb]);rw[e];by_cases hm:16777215<bs.length
   ·rw[Af hm];have:=KI true [] bs.length;exact .inr ⟨hm,by omega,this⟩
   ·rw[Ad hm];exact .inl rfl
 |true=>
  obtain⟨hb,hf⟩:=EK h;subst hb;have hk:=Iy λt ht=>ih t ht (Dg hf t ht);rw[Ad (by simp[bare]),Af rfl,AD,show([]:List Int).length+szs its=szs its from by simp];have hg:=KI true [] (szs its);unfold Like at*;rcases hk with hk|⟨h1,h2,h3⟩
  ·rw[hk];by_cases hm:16777215<szs its
   ·rw[Af hm];exact .inr ⟨hm,by omega,hg⟩
   ·rw[Ad hm];exact .inl rfl
  ·rw[Af h1];exact .inr ⟨h1,by omega,by omega⟩
theorem YE{its:List T}(h:forms its=true):rszs its<=szs its:=by
 have:=Iy λt ht=>PX t (Dg h t ht);unfold Like at this;omega
theorem Nz{its:List T}(k:Nat):rszs (its.take k)<=rszs its:=by
 have e:=He (its.take k) (its.drop k);rw[Bf]at e;omega
theorem OC:szOf true [] n=n+(hd 0 n).length:=by
 rw[Ny,hd_len];split<;>omega
def SizeSaid(t:T):Prop:=∀(x:V)(w:World),Lies w t x->form t=true->rsz t<=1000000000000->
 Calls prog 134 #[.agg #[.bool x.l, .slice x.ba x.bn x.bc, .slice x.ia x.m x.ic]] w λe w'=>e= .returned (.int .i64 (rsz t:Nat))/\Below w.heap.size w w'
theorem U5(l:Bool)(bs:List Int)(its:List T)(ih:∀t∈its,SizeSaid t):SizeSaid (.mk l bs its):=by
 intro x w hx hf hbig;obtain⟨xl,xag,xm,xic,xic2,⟨xbn,xm2⟩,xall⟩:=lies_eq.1 hx;have HBN:=XaI (below_new w (.cells #[.bool x.l, .slice x.ba x.bn x.bc, .slice x.ia x.m x.ic] 110));have HBX:=XaI (E5 w x);have HX:=XaI (Cg HBN.out _ x hx);have HAG:=XaI (xag.at HBN.out);have HXM:=XaI xm;have HIH:=XaI ih;have hbl:=xag.l;have hre:=WO l bs its;obtain⟨R0,hR0⟩:∃R0,rsz (.mk l bs its)=R0:=⟨_,rfl⟩;rw[hR0];rw[hR0]at hre hbig;obtain⟨xl',xba,xbn',xbc,xia,xm',xic'⟩:=x;simp only at xl xbn xm2 HBX HBN HX HAG HXM hbl xm;subst xl;obtain⟨W,hW⟩:∃W,w.alloc (.cells #[.bool xl', .slice xba xbn' xbc, .slice xia xm' xic'] 110)=W:=⟨_,rfl⟩;have HWW:=XaI hW;rw[hW]at HBN HBX HX HAG;clear hx xag xall ih xic xic2 hW hR0;cases xl' with
 |false=>
  have hi:=Ed hf;subst hi;have hm0:xm'=0:=xm;subst hm0;simp only[BT,DQ,FT,C5]at hre;by_cases hbare:bare false bs=true
  ·rw[Af hbare]at hre;subst hre;unfold bare at hbare;simp only[BJ,CP]at hbare;obtain⟨_,b2,b3⟩:=hbare;have hn1:xbn'=1:=(by omega);subst hn1;obtain⟨g,off,rfl,hc1,hc2,hc⟩:=ag_head HAG.out (by omega);unfold maxLen at hc2;have hc0:=hc 0 (by omega);rw[C5,<-HWW.out]at hc0;have hh:bs.getD 0 0=bs.headD 0:=(by cases bs<;>rfl);have hz:=(HAG.out.b (bs.getD 0 0) (by rw[List.getD,Ac (by omega)];exact Bo _)).1;rw[<-hh]at b3;generalize bs.getD 0 0=z at*;clear hc hh b2 hbl hf xm;go_enter func134,ntmps134;go_wp2_with fail;go_ret;exact⟨rfl,by rw[HWW.out];exact HBN.out⟩
  rw[Ad hbare,hbl]at hre;have HR0:=XaI hre.symm;clear hre;by_cases hn1:xbn'=1
  ·have hnb:((xbn':Int)==1)=true:=(by rw[DM];omega);have hnp:0<xbn':=(by omega);obtain⟨g,off,rfl,hc1,hc2,hc⟩:=ag_head HAG.out (by omega);unfold maxLen at hc2;have hc0:=hc 0 (by omega);rw[C5,<-HWW.out]at hc0;have hh:bs.getD 0 0=bs.headD 0:=(by cases bs<;>rfl);have hz:=(HAG.out.b (bs.getD 0 0) (by rw[List.getD,Ac (by omega)];exact Bo _)).2;have hge:¬bs.getD 0 0<128:=λh=>hbare (by unfold bare;rw[<-hh,AU h,AU (show bs.length=1 by omega)];rfl);generalize bs.getD 0 0=z at*;clear hc hh hbl hf xm hbare hn1;go_enter func134,ntmps134;go_wp2_with fail;rw[HWW.out]
   go_loopw [3,4] (λp q v=>p= .int .i64 xbn'/\q= .int .i64 0/\Below W.heap.size W v) (λ_ _ _=>0)
   case atStart=>exact⟨rfl,rfl,Ak _ _⟩
   case round=>
    obtain⟨rfl,rfl,hbv⟩:=hrel;obtain⟨d0,d1,d2⟩:=HBX.out.go hbv;simp only at d0 d1 d2;have HBV:=XaI hbv;clear hbv;by_cases hmax:16777215<xbn'
    ·have hmi:(xbn':Int)>16777215:=(by omega);have e:R0=xbn':=(by rw[<-HR0.out,Af hmax]);subst e;go_wp2_with fail;go_ret;exact⟨rfl,below_go HBN.out HBV.out⟩
    ·have hmi:¬(xbn':Int)>16777215:=(by omega);have e:R0=xbn'+(hd 0 xbn').length:=(by rw[<-HR0.out,Ad hmax,OC]);have h4:=OB (base:=0) (n:=xbn') (by omega);have hcal:=FE 0 xbn' (by omega) (by omega) wr;rw[show((0:Nat):Int)=0 from rfl]at hcal;obtain⟨K,hK⟩:∃K,(hd 0 xbn').length=K:=⟨_,rfl⟩;rw[hK]at hcal e h4;subst e;have HC:=XaI hcal;clear hcal hK;go_wp2_with fail;refine HC.out.mono ?_;rintro e w2⟨rfl,_,hb2⟩;have HB2:=XaI (below_go HBV.out hb2);clear hb2;go_wp2_with fail;go_ret;exact⟨by simp,below_go HBN.out HB2.out⟩
  ·have hnb:((xbn':Int)==1)=false:=(by rw[BB];omega);clear hbl hf xm hbare;go_enter func134,ntmps134;go_wp2_with fail;rw[HWW.out]
   go_loopw [3,4] (λp q v=>p= .int .i64 xbn'/\q= .int .i64 0/\Below W.heap.size W v) (λ_ _ _=>0)
   case atStart=>exact⟨rfl,rfl,Ak _ _⟩
   case round=>
    obtain⟨rfl,rfl,hbv⟩:=hrel;obtain⟨d0,d1,d2⟩:=HBX.out.go hbv;simp only at d0 d1 d2;have HBV:=XaI hbv;clear hbv;by_cases hmax:16777215<xbn'
    ·have hmi:(xbn':Int)>16777215:=(by omega);have e:R0=xbn':=(by rw[<-HR0.out,Af hmax]);subst e;go_wp2_with fail;go_ret;exact⟨rfl,below_go HBN.out HBV.out⟩
    ·have hmi:¬(xbn':Int)>16777215:=(by omega);have e:R0=xbn'+(hd 0 xbn').length:=(by rw[<-HR0.out,Ad hmax,OC]);have h4:=OB (base:=0) (n:=xbn') (by omega);have hcal:=FE 0 xbn' (by omega) (by omega) wr;rw[show((0:Nat):Int)=0 from rfl]at hcal;obtain⟨K,hK⟩:∃K,(hd 0 xbn').length=K:=⟨_,rfl⟩;rw[hK]at hcal e h4;subst e;have HC:=XaI hcal;clear hcal hK;go_wp2_with fail;refine HC.out.mono ?_;rintro e w2⟨rfl,_,hb2⟩;have HB2:=XaI (below_go HBV.out hb2);clear hb2;go_wp2_with fail;go_ret;exact⟨by simp,below_go HBN.out HB2.out⟩
 |true=>
  obtain⟨hb,hfs⟩:=EK hf;subst hb;simp only[if_true,AD]at hre;rw[Ad (by simp[bare])]at hre;have HR0:=XaI hre.symm;have HFS:=XaI hfs;have hrb:rszs its<=1000000000000:=by
   rw[hre]at hbig;split at hbig
   ·exact hbig
   ·have:=KI true [] (rszs its);omega
  clear hre hf hfs hbl xm;go_enter func134,ntmps134;go_wp2_with fail;rw[HWW.out]
  go_loopw [3,4] (λp q v=>∃u:Nat,u<=xm'/\q= .int .i64 u/\p= .int .i64 (rszs (its.take u):Nat)/\Below W.heap.size W v) (λ_ q _=>xm'-(intOf q).toNat)
  case atStart=>exact⟨0,by omega,rfl,by rw[BD,FT];rfl,Ak _ _⟩
  case round=>
   obtain⟨u,hu,rfl,rfl,hbv⟩:=hrel;obtain⟨d0,d1,d2⟩:=HBX.out.go hbv;simp only at d0 d1 d2;have HBV:=XaI hbv;clear hbv;by_cases hlt:u<xm'
   ·have hui:(u:Int)<xm':=(by omega);obtain⟨t,ht⟩:∃t,its[u]?=some t:=⟨its[u]'(by have:=HXM.out;omega),Ac _⟩;obtain⟨g,off,y,A⟩:=DX (lies_eq.1 HX.out).2.2.2.2.2.2 u t ht;rw[AD]at A;have ha:xia=some ⟨g,off,none⟩:=A.ha;subst ha;have y0:=AM HBV.out A.c0;have y1:=AM HBV.out A.c1;have y2:=AM HBV.out A.c2;have hmem:=AK ht;have hmore:=Nx ht;have hle:=Nz (its:=its) (u+1);have hcal:=HIH.out t hmem y wr (Cg HBV.out t y A.li) (Dg HFS.out t hmem) (by omega);obtain⟨r1,hr1⟩:∃r1,rszs (its.take u)=r1:=⟨_,rfl⟩;obtain⟨r2,hr2⟩:∃r2,rsz t=r2:=⟨_,rfl⟩;rw[hr1,hr2]at hmore;rw[hr1];rw[hr2]at hcal;have HC:=XaI hcal;have HMO:=XaI hmore;have hb1:r1+r2<=1000000000000:=(by omega);clear hcal ht A hmem hmore hle hr1 hr2;go_wp2_with fail;refine HC.out.mono ?_;rintro e w1⟨rfl,hb2⟩;have HB2:=XaI (below_go HBV.out hb2);clear hb2;go_wp2_with fail;exact⟨⟨u+1,by omega,by simp,by rw[HMO.out];simp,HB2.out⟩,by simp[intOf];omega⟩
   ·have hui:¬(u:Int)<xm':=(by omega);have htk:its.take u=its:=A5 (by rw[<-HXM.out];omega);rw[htk];obtain⟨S0,hS0⟩:∃S0,rszs its=S0:=⟨_,rfl⟩;rw[hS0]at HR0 hrb⊢;clear htk hS0;by_cases hmax:16777215<S0
    ·have hmi:(S0:Int)>16777215:=(by omega);have e:R0=S0:=(by rw[<-HR0.out,Af hmax]);subst e;go_wp2_with fail;go_ret;exact⟨rfl,below_go HBN.out HBV.out⟩
    ·have hmi:¬(S0:Int)>16777215:=(by omega);have e:R0=S0+(hd 0 S0).length:=(by rw[<-HR0.out,Ad hmax,OC]);have h4:=OB (base:=0) (n:=S0) (by omega);have hcal:=FE 0 S0 (by omega) (by omega) wr;rw[show((0:Nat):Int)=0 from rfl]at hcal;obtain⟨K,hK⟩:∃K,(hd 0 S0).length=K:=⟨_,rfl⟩;rw[hK]at hcal e h4;subst e;have HC:=XaI hcal;clear hcal hK;go_wp2_with fail;refine HC.out.mono ?_;rintro e w2⟨rfl,_,hb2⟩;have HB2:=XaI (below_go HBV.out hb2);clear hb2;go_wp2_with fail;go_ret;exact⟨by simp,below_go HBN.out HB2.out⟩
theorem WP:∀t,SizeSaid t:=T.ind U5
theorem WQ{l:Bool}{bs:List Int}{its:List T}(h:(wk (.mk l bs its) 0 0).2=0):bs.length<=16777215/\szs its<=167772150/\rszs its<=szs its/\Like (rszs its) (szs its):=by
 have hf:=IY _ 0 0 h;obtain⟨h1,h2,h3,h4⟩:=OU h;have hw:=EL h2;have hb:bs.length<=16777215:=by
  cases l with
  |true=>have e:bs=[]:=(by simpa using hw);rw[e];simp
  |false=>unfold wt at h3;simp at h3;omega
 have hfs:forms its=true:=by
  cases l with
  |true=>exact(EK hf).2
  |false=>rw[Ed hf,Ey]
 have hk:=Iy λt ht=>PX t (Dg hfs t ht);rw[h4]at h;obtain⟨W,hW⟩:∃W,wks its 1 (0+wt l bs 0)=(W,0):=⟨(wks its 1 (0+wt l bs 0)).1,Prod.ext rfl h⟩;have hbd:=JK (by omega) h3 hW;exact⟨hb,by omega,YE hfs,hk⟩
theorem K8(t:T)(x:V)(w:World)(hx:Lies w t x):
 Calls prog 107 #[.agg #[.bool x.l, .slice x.ba x.bn x.bc, .slice x.ia x.m x.ic]] w λe w'=>(∃a n c,e= .returned (.tuple #[.slice a n c, .int .i64 ((encP t).2:Nat)])/\Ag w' a n c (encP t).1/\(x.l=true->Nw w.heap.size a))/\Below w.heap.size w w':=by
 obtain⟨l,bs,its⟩:=t;have HBN:=XaI (below_new w (.cells #[.bool x.l, .slice x.ba x.bn x.bc, .slice x.ia x.m x.ic] 110));have HBX:=XaI (E5 w x);have HX:=XaI (Cg HBN.out _ x hx);have xm:=(lies_eq.1 hx).2.2.1;have xm2:=(lies_eq.1 hx).2.2.2.2.2.1.2;have hbl:=(lies_eq.1 hx).2.1.l;have HXM:=XaI xm;have hcal:=WN (.mk l bs its) x _ 0 0 HX.out (by omega) (by omega);rw[show((0:Nat):Int)=0 from rfl]at hcal;obtain⟨⟨ww,er⟩,hwk⟩:∃r,wk (.mk l bs its) 0 0=r:=⟨_,rfl⟩;rw[hwk]at hcal;simp only at hcal;by_cases her:er=0
 case neg=>
  have hm:mP (.mk l bs its)=(0,er):=by unfold mP;rw[hwk,Af (by simpa using her)]
  have he:encP (.mk l bs its)=([],er):=by unfold encP;rw[hm,Ad (by simpa using her)]
  rw[he];have hee:((er:Int) !=0)=true:=by rw[BL];omega
  have HC:=XaI hcal;clear hcal hm he hx hwk xm hbl xm2;go_enter func107,ntmps107;go_wp2_with fail;refine HC.out.mono ?_;rintro e w1⟨rfl,hb1⟩;have HB1:=XaI (below_go HBN.out hb1);clear hb1 HC;go_wp2_with fail;go_ret2;exact⟨⟨none,0,0,rfl,ag_nil _,λ_ g off h=>by cases h⟩,HB1.out⟩
 subst her;rw[show((0:Nat):Int)=0 from rfl]at hcal;have h0:(wk (.mk l bs its) 0 0).2=0:=by rw[hwk]
 obtain⟨s1,s2,s3,s4⟩:=WQ h0;have hfs:forms its=true:=by
  have hf:=IY _ 0 0 h0;cases l with
  |true=>exact(EK hf).2
  |false=>rw[Ed hf,Ey]
 have hmP:mP (.mk l bs its)=if 16777215<bs.length+szs its then(0,20)else(sz (.mk l bs its),0):=by unfold mP;rw[Ad (by rw[h0];simp)];rfl
 have hN:(16777215<bs.length+szs its)↔(16777215<bs.length+rszs its):=by unfold Like at s4;omega
 have hbody:(bodyOf (.mk l bs its)).length=bs.length+szs its:=by rw[<-IX (IY _ 0 0 h0)];rfl
 obtain⟨E,hE⟩:∃E,encP (.mk l bs its)=E:=⟨_,rfl⟩;rw[hE];have HEE:Hid (encP (.mk l bs its)=E):=XaI hE;have HMP:=XaI hmP;have HN:=XaI hN;have HBO:=XaI hbody;have HFS:=XaI hfs;have HC:=XaI hcal;obtain⟨xl,xba,xbn,xbc,xia,xm',xic⟩:=x;simp only at xm2 hbl HBX HBN HX HXM HC;have HBL:=XaI hbl;obtain⟨LB,hLB⟩:∃LB,bs.length=LB:=⟨_,rfl⟩;have hLx:LB=xbn:=by omega
 subst hLx;clear hcal hE hmP hN hbody hfs hx hwk h0 xm s4 hbl;have HLB:=XaI hLB;rw[hLB]at s1 HMP HN HBO;clear hLB;go_enter func107,ntmps107;go_wp2_with fail;refine HC.out.mono ?_;rintro e w1⟨rfl,hb1⟩;obtain⟨c0,c1,c2⟩:=HBX.out.go hb1;simp only at c0 c1 c2;have HB1:=XaI (below_go HBN.out hb1);have HX1:=XaI (Cg hb1 _ _ HX.out);have HBX1:=XaI (HBX.out.go hb1);clear hb1 HC HBX HX;go_wp2_with fail
 go_loopw [6,7] (λp q v=>∃u:Nat,u<=xm'/\q= .int .i64 u/\p= .int .i64 (LB+rszs (its.take u):Nat)/\Below w1.heap.size w1 v) (λ_ q _=>xm'-(intOf q).toNat)
 case atStart=>exact⟨0,by omega,rfl,by rw[BD,FT];rfl,Ak _ _⟩
 case round=>
  clear c0 c1 c2;obtain⟨u,hu,rfl,rfl,hbv⟩:=hrel;obtain⟨d0,d1,d2⟩:=HBX1.out.go hbv;simp only at d0 d1 d2;have HBV:=XaI hbv;clear hbv;by_cases hlt:u<xm'
  ·have hui:(u:Int)<xm':=(by omega);obtain⟨t,ht⟩:∃t,its[u]?=some t:=⟨its[u]'(by have:=HXM.out;omega),Ac _⟩;obtain⟨g,off,y,A⟩:=DX (lies_eq.1 HX1.out).2.2.2.2.2.2 u t ht;rw[AD]at A;have ha:xia=some ⟨g,off,none⟩:=A.ha;subst ha;have y0:=AM HBV.out A.c0;have y1:=AM HBV.out A.c1;have y2:=AM HBV.out A.c2;have hmem:=AK ht;have hmore:=Nx ht;have hle:=Nz (its:=its) (u+1);have hcal:=WP t y wr (Cg HBV.out t y A.li) (Dg HFS.out t hmem) (by omega);obtain⟨r1,hr1⟩:∃r1,LB+rszs (its.take u)=r1:=⟨_,rfl⟩;obtain⟨r2,hr2⟩:∃r2,rsz t=r2:=⟨_,rfl⟩;have hmo:LB+rszs (its.take (u+1))=r1+r2:=(by omega);rw[hr1];rw[hr2]at hcal;have HC:=XaI hcal;have HMO:=XaI hmo;have hb1:r1+r2<=1000000000000:=(by omega);clear hcal ht A hmem hmore hle hr1 hr2 hmo;go_wp2_with fail;refine HC.out.mono ?_;rintro e w2⟨rfl,hb2⟩;have HB2:=XaI (below_go HBV.out hb2);clear hb2;go_wp2_with fail;exact⟨⟨u+1,by omega,by simp,by rw[HMO.out];simp,HB2.out⟩,by simp[intOf];omega⟩
  ·have hui:¬(u:Int)<xm':=(by omega);have htk:its.take u=its:=A5 (by rw[<-HXM.out];omega);rw[htk];have hn:=HN.out;have hmp:=HMP.out;have hbo:=HBO.out;obtain⟨S0,hS0⟩:∃S0,LB+rszs its=S0:=⟨_,rfl⟩;rw[hS0]at hn⊢;clear htk;by_cases hmax:16777215<S0
   ·have hmi:(S0:Int)>16777215:=(by omega);rw[Af (hn.2 hmax)]at hmp;have he:E=([],20):=(by rw[<-HEE.out];unfold encP;rw[hmp,Ad (by decide)]);subst he;clear hn hmp hbo hS0;go_wp2_with fail;go_ret2;exact⟨⟨none,0,0,rfl,ag_nil _,λ_ g off h=>by cases h⟩,below_go HB1.out HBV.out⟩
   ·have hmi:¬(S0:Int)>16777215:=(by omega);have hng:¬16777215<LB+szs its:=λh=>hmax (hn.1 h);rw[Ad hng]at hmp;have he:E=(enc (.mk l bs its),0):=(by rw[<-HEE.out];unfold encP;rw[hmp,Af rfl]);subst he;have hcal:=Rq (.mk l bs its) _ wr (Cg HBV.out _ _ HX1.out) (by omega);have HC:=XaI hcal;clear hn hmp hbo hS0 hcal;go_wp2_with fail;refine HC.out.mono ?_;rintro e w2⟨⟨a2,n2,c2,rfl,hag2,hnw⟩,hb2⟩;have HNW:=XaI (λh=>(hnw h).mono (Al HB1.out.size HBV.out.size));have HA2:=XaI hag2;have HB2:=XaI (below_go HBV.out hb2);clear hag2 hb2 hnw;go_wp2_with fail;go_ret2;exact⟨⟨a2,n2,c2,rfl,HA2.out,HNW.out⟩,below_go HB1.out HB2.out⟩
section
variable {a : Act} {w : World}
theorem J9{x:Operand}{p:Addr}{v:Value}{o:Oper}(ho:o.op= .load 90 x)(hx:a.eval x= .pointer (some p))(hc:w.cell? p=some v):(execOp a.eval o).run prog w= .ok (.value v) w:=by
 unfold execOp;rw[ho];simp only[hx];go_simp
theorem U6{x y:Operand}{g off j m c:Nat}{o:Oper}(ho:o.op= .indexAddr 90 x y)(hx:a.eval x= .slice (some ⟨g,off,none⟩) m c)(hy:a.eval y= .int .i64 j)(hj:j<m):(execOp a.eval o).run prog w= .ok (.value (.pointer (some ⟨g,off+j*34,none⟩))) w:=by
 have hji:(j:Int)<m:=by omega
 unfold execOp;rw[ho];simp only[hx,hy];go_simp
end
end Go.Proofs.YtalhnnjpjaeakaaGreat
