/- What the document's item answers. -/
import Derived.Test.YtefhepcplempkaaGreatAK
import Derived.Test.YtefhepcplempkaaGreatG10
import Derived.Test.YtefhepcplempkaaGreatG20
import Derived.Test.YtefhepcplempkaaGreatG01
import Derived.Test.YtefhepcplempkaaGreatG06
import Derived.Test.YtefhepcplempkaaGreatG13
import Derived.Test.YtefhepcplempkaaGreatG07
import Derived.Test.YtefhepcplempkaaGreatG14
set_option linter.unusedVariables false
set_option maxRecDepth 100000
set_option maxHeartbeats 8000000
open Go.Proofs.Tryz Go.RowKit
namespace Go.Proofs.YtefhepcplempkaaGreat
variable {w : World} {base n gI : Nat}
theorem IC(K:Nat->Prop)(x:RV)(r:PR)(w:World)(h:RefAt K w x r):
 Calls prog 86 #[.agg x.cells.toArray] w (IPost w (refItemP r)):=by
 have HRI:=ZQ (Vs w x h.len);have HH:=ZQ h;have HLX:=ZQ h.len;obtain⟨res,hres⟩:∃res,refItemP r=res:=⟨_,rfl⟩;rw[hres];unfold refItemP at hres;rw[<-h.1]at hres;have HRES:=ZQ hres;clear h hres;go_enter func86,ntmps86;go_upto_region 1 with fail;refine gen_w (p:=λv=>Code.wp _ _ _ _ v) (q:=λv=>Ri w v x) HRI.out ?_;clear HRI;intro v R0;have c0:=R0.bx.c0;have c33:=R0.bx.c33;have HR0:=ZQ R0;clear R0;by_cases h1:x.k=1
 ·have hr:=HRES.out;rw[if_pos h1]at hr;have HCD:=ZQ (KN x.a x.n x.c r.i v (HH.out.2.2.2.2.1.at HR0.out.bel) HH.out.2.2.2.2.2.1);have HR:=ZQ hr;clear hr HRES;go_wp2_with fail;refine HCD.out.mono ?_;intro e w1 hp;obtain⟨hb1,hp⟩:=hp;have HR1:=ZQ (HR0.out.go hb1);have HS0:=ZQ HR0.out.sz;have hr:=HR.out;cases hq:decP r.i with
  |bad er=>
   rw[hq]at hp hr;have hr:t0=res:=hr;subst hr;obtain⟨rfl,her⟩:=hp;clear hb1 hq her;go_upto_region 3 with fail;refine gen_w (p:=λv=>Code.wp _ _ _ _ v) (q:=λv=>Ri w v x/\B1 w1.heap.size v ⟨false,none,0,0,none,0,0⟩) ⟨HR1.out.go (below_new w1 _),EP w1 ⟨false,none,0,0,none,0,0⟩⟩ ?_;rintro v2⟨R2,B2⟩;have x0:=R2.x0;have x1:=R2.x1;have x2:=R2.x2;have xf:=R2.xf;have d0:=B2.c0;have d1:=B2.c1;have d2:=B2.c2;have HR2:=ZQ R2;clear R2 B2 c0 c33;go_wp2_with fail;have hr:=put3 HR2.out.row (.bool false) (.slice none 0 0) (.slice none 0 0);refine bodyPost_ret (results_cell_row results86 _ _ (w.heap.size+1) 109 _ (0,0) _ rfl hr underlying109 rfl (by kernel_rfl)) rfl ?_;exact Fd (y:=⟨false,none,0,0,none,0,0⟩) HR2.out (IW _ _)
  |ok t=>
   rw[hq]at hp hr;have hr:t=res:=hr;subst hr;obtain⟨y,rfl,hy⟩:=hp;have HY:=ZQ (show LiesP (λb=>w.heap.size+2<=b) w1 t y from B6 (λb hb hlt=>⟨rfl,by have:=HS0.out;omega⟩) _ _ hy);clear hb1 hq hy;go_upto_region 3 with fail;refine gen_w (p:=λv=>Code.wp _ _ _ _ v) (q:=λv=>Ri w v x/\B1 w1.heap.size v y/\LiesP (λb=>w.heap.size+2<=b) v t y) ⟨HR1.out.go (below_new w1 _),EP w1 _,B6 (λb hb hlt=>⟨heap_alloc_old _ _ hlt,hb⟩) _ _ HY.out⟩ ?_;rintro v2⟨R2,B2,L2⟩;have x0:=R2.x0;have x1:=R2.x1;have x2:=R2.x2;have xf:=R2.xf;have d0:=B2.c0;have d1:=B2.c1;have d2:=B2.c2;have HR2:=ZQ R2;have HL2:=ZQ L2;clear R2 B2 L2 c0 c33;go_wp2_with fail;have hr:=put3 HR2.out.row (.bool y.l) (.slice y.ba y.bn y.bc) (.slice y.ia y.m y.ic);refine bodyPost_ret (results_cell_row results86 _ _ (w.heap.size+1) 109 _ (0,0) _ rfl hr underlying109 rfl (by kernel_rfl)) rfl ?_;exact Fd HR2.out HL2.out
 ·by_cases h2:x.k=2
  ·have hr:=HRES.out;rw[if_neg h1,if_pos h2]at hr;subst hr;have e1:(x.k==1)=false:=(by simp[h1]);have HS0:=ZQ HR0.out.sz;clear c33;go_wp2_with fail;clear c0 e1
   go_loopw [5,6] (λs5 s6 u=>∃j:Nat,j<=32/\s6= .int .i64 j/\OwnB u v.heap.size s5 (r.d.take j)/\Below v.heap.size v u) (λ_ s6 _=>32-(intOf s6).toNat)
   case atStart=>exact⟨0,by omega,rfl,Ni.ownB_nil _ _,Below.refl _ _⟩
   case round=>
    obtain⟨j,hj,rfl,hown,hb⟩:=hrel;have HO:=ZQ hown;have HBW:=ZQ hb;have HRR:=ZQ (HR0.out.go hb);clear hown hb;by_cases hlt:j<32
    ·have hji:(j:Int)<32:=(by omega);have hjd:j<r.d.length:=(by rw[HH.out.2.2.2.1];exact hlt);have hcell:wr.cell? ⟨w.heap.size,1+j,none⟩=some (.int .u8 (r.d.getD j 0)):=by
      have hd:=HRR.out.bx.digest;rw[HH.out.2.1]at hd;exact hd j _ (by rw[List.getElem?_map,List.getD,List.getElem?_eq_getElem hjd];rfl)
     have HN:=ZQ (Ni.take_snoc hjd);have HTL:=ZQ (show(r.d.take j).length=j from by rw[List.length_take];omega);generalize r.d.getD j 0=z at hcell HN;have HO2:Hid (∀o:Obj,OwnB (wr.alloc o) v.heap.size u5 (r.d.take j)):=ZQ λo=>OwnB.alloc HO.out o;have HSZ:=ZQ HBW.out.size;clear HO hjd
     go_wp2_with (first
      |(at_builtin;refine DL rfl (.tmp 24) (.tmp 29) rfl v.heap.size _ (r.d.take j) rfl (HO2.out _) (some ⟨wr.heap.size,0,none⟩) 1 1 [z] rfl (Ni.in0_one wr _) (λh=>by cases h) rfl (by rw[HTL.out];omega) (by have:=HSZ.out;simp;omega) ?_;intro v1 w1 o1 hb1;rw[<-HN.out]at o1;have HO3:=ZQ o1;have HB3:=ZQ ((HBW.out.alloc HSZ.out _).trans hb1);clear o1 hb1))
     go_roundw
     case rel=>exact⟨j+1,by omega,by simp,HO3.out,HB3.out⟩
     case measure=>simp[intOf];omega
    ·have hji:¬(j:Int)<32:=(by omega);have hbt:r.d.take j=r.d:=List.take_of_length_le (by rw[HH.out.2.2.2.1];omega);rw[hbt]at HO;obtain⟨g,cap,rfl,hg1,hg2,hg3,hg4,hg5⟩:=HO.out.slice (by rw[HH.out.2.2.2.1];omega);have hag:=(HO.out.ag HH.out.2.2.1);obtain⟨aa,cc,hve,hag⟩:=hag;cases hve;have hfz:∀o,wr.frozen? ⟨g,o,none⟩=false:=by
      rcases HO.out.2 with⟨hx,_⟩|⟨g',cap',cur,hx,_,hh,_⟩
      ·cases hx
      ·cases hx;exact λo=>frozen_of_row _ _ _ _ _ hh
     have hld:=HH.out.2.2.2.1;rw[hld]at hag⊢
     have HLY:=ZQ (show LiesP (λb=>w.heap.size+2<=b) wr (.mk false r.d []) ⟨false,some ⟨g,0,none⟩,32,cap,none,0,0⟩from
      liesP_eq.2 ⟨⟨rfl,hag,rfl,Nat.le_refl _,Nat.zero_le _,⟨by show 32<=_;omega,Nat.zero_le _⟩,λg' off e _=>by cases e;exact⟨by have:=HS0.out;omega,hfz⟩⟩,D9⟩)
     have x0:=HRR.out.x0;have x1:=HRR.out.x1;have x2:=HRR.out.x2;have xf:=HRR.out.xf;clear hag hfz hld hbt hg1 hg2 hg3 hg4 hg5;go_wp2_with fail;have hr:=put3 HRR.out.row (.bool false) (.slice (some ⟨g,0,none⟩) 32 cap) (.slice none 0 0);refine bodyPost_ret (results_cell_row results86 _ _ (w.heap.size+1) 109 _ (0,0) _ rfl hr underlying109 rfl (by kernel_rfl)) rfl ?_;exact Fd (y:=⟨false,some ⟨g,0,none⟩,32,cap,none,0,0⟩) HRR.out HLY.out
  ·have hr:=HRES.out;rw[if_neg h1,if_neg h2]at hr;subst hr;have e1:(x.k==1)=false:=(by simp[h1]);have e2:(x.k==2)=false:=(by simp[h2]);have x0:=HR0.out.x0;have x1:=HR0.out.x1;have x2:=HR0.out.x2;have xf:=HR0.out.xf;go_wp2_with fail;have hr:=put3 HR0.out.row (.bool false) (.slice none 0 0) (.slice none 0 0);refine bodyPost_ret (results_cell_row results86 _ _ (w.heap.size+1) 109 _ (0,0) _ rfl hr underlying109 rfl (by kernel_rfl)) rfl ?_;exact Fd (y:=⟨false,none,0,0,none,0,0⟩) HR0.out (IW _ _)
def WalkSaid(t:T):Prop:=∀(x:V)(w:World)(d ww:Nat),Lies w t x->d<=8->ww<=16777215->
 Calls prog 123 #[.agg #[.bool x.l, .slice x.ba x.bn x.bc, .slice x.ia x.m x.ic], .int .i64 d, .int .i64 ww] w λe w'=>e= .returned (.tuple #[.int .i64 ((wk t d ww).1:Nat), .int .i64 ((wk t d ww).2:Nat)])/\Below w.heap.size w w'
set_option maxRecDepth 20000 in
theorem TX(l:Bool)(bs:List Int)(its:List T)(ih:∀t∈its,WalkSaid t):WalkSaid (.mk l bs its):=by
 intro x w d ww hx hd hw;obtain⟨xl,xag,xm,xic,xic2,⟨xbn,xm2⟩,xall⟩:=lies_eq.1 hx;obtain⟨res,hres⟩:∃r,wk (.mk l bs its) d ww=r:=⟨_,rfl⟩;rw[hres];rw[Ji]at hres;have HBX:=ZQ (EP w x);have HBN:=ZQ (below_new w (.cells #[.bool x.l, .slice x.ba x.bn x.bc, .slice x.ia x.m x.ic] 109));have HX:=ZQ (Ci HBN.out _ x hx);have HXM:=ZQ xm;have HIH:=ZQ ih;have hbl:=xag.l;obtain⟨xl',xba,xbn',xbc,xia,xm',xic'⟩:=x;simp only at xl hbl xm xbn xm2 HBX HBN HX HXM;subst xl;clear hx xag xall ih xic xic2;by_cases h21:xl'=true/\8<=d
 ·obtain⟨rfl,h8⟩:=h21;rw[Ai (by simpa using h8)]at hres;subst hres;have h8i:(d:Int)>=8:=by omega
  clear hbl xm;go_enter func123,ntmps123;go_wp2_with fail;go_ret2;exact⟨rfl,HBN.out⟩
 rw[Ae (λh=>h21 (by simpa using h))]at hres;by_cases h23:wrongForm xl' bs its=true
 ·rw[Ai h23]at hres;subst hres;cases xl' with
  |true=>
   have hb0:(xbn':Int)>0:=(by unfold wrongForm at h23;simp at h23;omega);have h8i:¬(d:Int)>=8:=(by have:¬8<=d:=λh=>h21 ⟨rfl,h⟩;omega);clear hbl xm h23 h21;go_enter func123,ntmps123;go_wp2_with fail;go_ret2;exact⟨rfl,HBN.out⟩
  |false=>
   have hb0:(xm':Int)>0:=(by unfold wrongForm at h23;simp at h23;omega);clear hbl xm h23 h21;go_enter func123,ntmps123;go_wp2_with fail;go_ret2;exact⟨rfl,HBN.out⟩
 rw[Ae h23]at hres;have HRES:=ZQ hres;clear hres;have hwf:=Fb (by simpa using h23);have hz:(xl'=true->xbn'=0)/\(xl'=false->xm'=0):=by
  cases xl' with
  |true=>
   have e:bs=[]:=(by simpa using hwf);rw[e]at hbl;exact⟨λ_=>hbl.symm,λh=>Bool.noConfusion h⟩
  |false=>
   have e:its=[]:=(by simpa using hwf);rw[e]at xm;exact⟨λh=>Bool.noConfusion h,λ_=>xm⟩
 have hwt:wt xl' bs d=if xl'&&decide (d=0)then 0 else max xbn' 1:=by rw[<-hbl];unfold wt;by_cases h0:d=0<;>simp[h0]
 have hd8:xl'=true->¬8<=d:=λh h8=>h21 ⟨h,h8⟩;rw[hwt]at HRES;obtain⟨W0,hW0⟩:∃W0,ww+(if xl'&&decide (d=0)then 0 else max xbn' 1)=W0:=⟨_,rfl⟩;rw[hW0]at HRES;have hW0b:W0<=16777215+140737488351232:=by rw[<-hW0];split<;>omega
 have HH:=ZQ hW0;have HD8:=ZQ hd8;obtain⟨W,hW⟩:∃W,w.alloc (.cells #[.bool xl', .slice xba xbn' xbc, .slice xia xm' xic'] 109)=W:=⟨_,rfl⟩;have HWW:=ZQ hW;have hch:Hid (∀v,Below W.heap.size W v->B1 w.heap.size v ⟨xl',xba,xbn',xbc,xia,xm',xic'⟩):=ZQ λv hb=>by rw[hW]at HBX;exact HBX.out.go hb
 rw[hW]at HBX HBN HX;clear hbl xm h23 h21 hwf hwt hd8 hW0 hW;cases xl' with
 |false=>
  have hm0:=hz.2 rfl;subst hm0;have hh:=HH.out;rw[Ae (by simp)]at hh;clear hz;by_cases hb1:1<xbn'
  ·have hbi:(xbn':Int)>1:=(by omega);have hsum:(ww:Int)+xbn'=W0:=(by omega);clear hh;by_cases hlong:16777215<W0
   ·have hli:(W0:Int)>16777215:=(by omega);have hr:=HRES.out;rw[Ai hlong]at hr;subst hr;go_enter func123,ntmps123;go_wp2_with fail;go_ret2;exact⟨rfl,by rw[HWW.out];exact HBN.out⟩
   have hli:¬(W0:Int)>16777215:=(by omega);have hr:=HRES.out;rw[Ae hlong]at hr;have HR2:=ZQ hr;clear hr HRES;go_enter func123,ntmps123;go_wp2_with fail;rw[HWW.out]
   go_loopw [2,8] (λp q v=>∃(u cur:Nat),u<=0/\q= .int .i64 u/\p= .int .i64 cur/\wks (its.take u) (d+1) W0=(cur,0)/\cur<=16777215/\Below W.heap.size W v) (λ_ q _=>0-(intOf q).toNat)
   case atStart=>exact⟨0,W0,by omega,rfl,rfl,by rw[BL,E1],by omega,Ak _ _⟩
   case round=>
    obtain⟨u,cur,hu,rfl,rfl,hcur,hcb,hbv⟩:=hrel;obtain⟨c0,c1,c2⟩:=hch.out _ hbv;simp only at c0 c1 c2;have HBV:=ZQ hbv;have HCU:=ZQ hcur;clear hbv hcur;have hui:¬(u:Int)<0:=(by omega);have hr:=HR2.out;rw[<-A8 (l:=its) (i:=u) (by rw[<-HXM.out];omega),HCU.out]at hr;subst hr;go_wp2_with fail;go_ret2;exact⟨rfl,below_go HBN.out HBV.out⟩
  ·have hbi:¬(xbn':Int)>1:=(by omega);have hsum:(ww:Int)+1=W0:=(by omega);clear hh;by_cases hlong:16777215<W0
   ·have hli:(W0:Int)>16777215:=(by omega);have hr:=HRES.out;rw[Ai hlong]at hr;subst hr;go_enter func123,ntmps123;go_wp2_with fail;go_ret2;exact⟨rfl,by rw[HWW.out];exact HBN.out⟩
   have hli:¬(W0:Int)>16777215:=(by omega);have hr:=HRES.out;rw[Ae hlong]at hr;have HR2:=ZQ hr;clear hr HRES;go_enter func123,ntmps123;go_wp2_with fail;rw[HWW.out]
   go_loopw [2,8] (λp q v=>∃(u cur:Nat),u<=0/\q= .int .i64 u/\p= .int .i64 cur/\wks (its.take u) (d+1) W0=(cur,0)/\cur<=16777215/\Below W.heap.size W v) (λ_ q _=>0-(intOf q).toNat)
   case atStart=>exact⟨0,W0,by omega,rfl,rfl,by rw[BL,E1],by omega,Ak _ _⟩
   case round=>
    obtain⟨u,cur,hu,rfl,rfl,hcur,hcb,hbv⟩:=hrel;obtain⟨c0,c1,c2⟩:=hch.out _ hbv;simp only at c0 c1 c2;have HBV:=ZQ hbv;have HCU:=ZQ hcur;clear hbv hcur;have hui:¬(u:Int)<0:=(by omega);have hr:=HR2.out;rw[<-A8 (l:=its) (i:=u) (by rw[<-HXM.out];omega),HCU.out]at hr;subst hr;go_wp2_with fail;go_ret2;exact⟨rfl,below_go HBN.out HBV.out⟩
 |true=>
  have hm0:=hz.1 rfl;subst hm0;have hh:=HH.out;have h8i:¬(d:Int)>=8:=by have:=HD8.out rfl;omega
  clear hz;by_cases hd0:d=0
  ·rw[Ai (by simp[hd0])]at hh;have hsum:(ww:Int)=W0:=(by omega);have hdi:¬(d:Int)>0:=(by omega);clear hh hd0;have hlong:¬16777215<W0:=(by omega);have hli:¬(W0:Int)>16777215:=(by omega);have hr:=HRES.out;rw[Ae hlong]at hr;have HR2:=ZQ hr;clear hr HRES;go_enter func123,ntmps123;go_wp2_with fail;rw[HWW.out]
   go_loopw [2,8] (λp q v=>∃(u cur:Nat),u<=xm'/\q= .int .i64 u/\p= .int .i64 cur/\wks (its.take u) (d+1) W0=(cur,0)/\cur<=16777215/\Below W.heap.size W v) (λ_ q _=>xm'-(intOf q).toNat)
   case atStart=>exact⟨0,W0,by omega,rfl,rfl,by rw[BL,E1],by omega,Ak _ _⟩
   case round=>
    obtain⟨u,cur,hu,rfl,rfl,hcur,hcb,hbv⟩:=hrel;obtain⟨c0,c1,c2⟩:=hch.out _ hbv;simp only at c0 c1 c2;have HBV:=ZQ hbv;have HCU:=ZQ hcur;clear hbv hcur;by_cases hlt:u<xm'
    case pos=>
     have hui:(u:Int)<xm':=(by omega);obtain⟨t,ht⟩:∃t,its[u]?=some t:=⟨its[u]'(by have:=HXM.out;omega),Ac _⟩;obtain⟨g,off,y,A⟩:=Eh (lies_eq.1 HX.out).2.2.2.2.2.2 u t ht;rw[AM]at A;have ha:xia=some ⟨g,off,none⟩:=A.ha;subst ha;have y0:=AW HBV.out A.c0;have y1:=AW HBV.out A.c1;have y2:=AW HBV.out A.c2;have hdd:=HD8.out (by simp);have hcal:=HIH.out t (A6 ht) y wr (d+1) cur (Ci HBV.out t y A.li) (by omega) hcb;rw[show((d+1:Nat):Int)=(d:Int)+1 from by omega]at hcal;have HC:=ZQ hcal;have HT:=ZQ ht;have hbnd:=Lz (t:=t) (d:=d+1) (w:=cur) (by omega) hcb;clear hcal ht A;go_wp2_with fail;refine HC.out.mono ?_;rintro e w1⟨rfl,hb1⟩;have HB1:=ZQ (below_go HBV.out hb1);clear hb1 HC;by_cases h0:(wk t (d+1) cur).2=0
     ·have hb0:=hbnd h0;have hmore:=Lx HT.out HCU.out h0;rw[h0];obtain⟨c3,hc3⟩:∃c3,(wk t (d+1) cur).1=c3:=⟨_,rfl⟩;rw[hc3]at hb0 hmore⊢;rw[show((0:Nat):Int)=0 from rfl];have HMO:=ZQ hmore;clear hbnd hmore h0 hc3;go_wp2_with fail;exact⟨⟨u+1,c3,by omega,by simp,rfl,HMO.out,by omega,HB1.out⟩,by simp[intOf];omega⟩
     ·have hfail:=Ly HT.out HCU.out h0;rw[HR2.out]at hfail;subst hfail;obtain⟨c3,hc3⟩:∃c3,(wk t (d+1) cur).1=c3:=⟨_,rfl⟩;obtain⟨e3,he3⟩:∃e3,(wk t (d+1) cur).2=e3:=⟨_,rfl⟩;rw[he3]at h0;rw[hc3,he3];have hee:((e3:Int) !=0)=true:=(by rw[BT];omega);clear hbnd h0;go_wp2_with fail;go_ret2;exact⟨by rw[hc3,he3];rfl,below_go HBN.out HB1.out⟩
    have hui:¬(u:Int)<xm':=(by omega);have hr:=HR2.out;rw[<-A8 (l:=its) (i:=u) (by rw[<-HXM.out];omega),HCU.out]at hr;subst hr;go_wp2_with fail;go_ret2;exact⟨rfl,below_go HBN.out HBV.out⟩
  ·have hdi:(d:Int)>0:=(by omega);rw[Ae (by simp[hd0])]at hh;have hsum:(ww:Int)+1=W0:=(by omega);clear hh;by_cases hlong:16777215<W0
   ·have hli:(W0:Int)>16777215:=(by omega);have hr:=HRES.out;rw[Ai hlong]at hr;subst hr;go_enter func123,ntmps123;go_wp2_with fail;go_ret2;exact⟨rfl,by rw[HWW.out];exact HBN.out⟩
   have hli:¬(W0:Int)>16777215:=(by omega);have hr:=HRES.out;rw[Ae hlong]at hr;have HR2:=ZQ hr;clear hr HRES;go_enter func123,ntmps123;go_wp2_with fail;rw[HWW.out]
   go_loopw [2,8] (λp q v=>∃(u cur:Nat),u<=xm'/\q= .int .i64 u/\p= .int .i64 cur/\wks (its.take u) (d+1) W0=(cur,0)/\cur<=16777215/\Below W.heap.size W v) (λ_ q _=>xm'-(intOf q).toNat)
   case atStart=>exact⟨0,W0,by omega,rfl,rfl,by rw[BL,E1],by omega,Ak _ _⟩
   case round=>
    obtain⟨u,cur,hu,rfl,rfl,hcur,hcb,hbv⟩:=hrel;obtain⟨c0,c1,c2⟩:=hch.out _ hbv;simp only at c0 c1 c2;have HBV:=ZQ hbv;have HCU:=ZQ hcur;clear hbv hcur;by_cases hlt:u<xm'
    case pos=>
     have hui:(u:Int)<xm':=(by omega);obtain⟨t,ht⟩:∃t,its[u]?=some t:=⟨its[u]'(by have:=HXM.out;omega),Ac _⟩;obtain⟨g,off,y,A⟩:=Eh (lies_eq.1 HX.out).2.2.2.2.2.2 u t ht;rw[AM]at A;have ha:xia=some ⟨g,off,none⟩:=A.ha;subst ha;have y0:=AW HBV.out A.c0;have y1:=AW HBV.out A.c1;have y2:=AW HBV.out A.c2;have hdd:=HD8.out (by simp);have hcal:=HIH.out t (A6 ht) y wr (d+1) cur (Ci HBV.out t y A.li) (by omega) hcb;rw[show((d+1:Nat):Int)=(d:Int)+1 from by omega]at hcal;have HC:=ZQ hcal;have HT:=ZQ ht;have hbnd:=Lz (t:=t) (d:=d+1) (w:=cur) (by omega) hcb;clear hcal ht A;go_wp2_with fail;refine HC.out.mono ?_;rintro e w1⟨rfl,hb1⟩;have HB1:=ZQ (below_go HBV.out hb1);clear hb1 HC;by_cases h0:(wk t (d+1) cur).2=0
     ·have hb0:=hbnd h0;have hmore:=Lx HT.out HCU.out h0;rw[h0];obtain⟨c3,hc3⟩:∃c3,(wk t (d+1) cur).1=c3:=⟨_,rfl⟩;rw[hc3]at hb0 hmore⊢;rw[show((0:Nat):Int)=0 from rfl];have HMO:=ZQ hmore;clear hbnd hmore h0 hc3;go_wp2_with fail;exact⟨⟨u+1,c3,by omega,by simp,rfl,HMO.out,by omega,HB1.out⟩,by simp[intOf];omega⟩
     ·have hfail:=Ly HT.out HCU.out h0;rw[HR2.out]at hfail;subst hfail;obtain⟨c3,hc3⟩:∃c3,(wk t (d+1) cur).1=c3:=⟨_,rfl⟩;obtain⟨e3,he3⟩:∃e3,(wk t (d+1) cur).2=e3:=⟨_,rfl⟩;rw[he3]at h0;rw[hc3,he3];have hee:((e3:Int) !=0)=true:=(by rw[BT];omega);clear hbnd h0;go_wp2_with fail;go_ret2;exact⟨by rw[hc3,he3];rfl,below_go HBN.out HB1.out⟩
    have hui:¬(u:Int)<xm':=(by omega);have hr:=HR2.out;rw[<-A8 (l:=its) (i:=u) (by rw[<-HXM.out];omega),HCU.out]at hr;subst hr;go_wp2_with fail;go_ret2;exact⟨rfl,below_go HBN.out HBV.out⟩
theorem Wl:∀t,WalkSaid t:=T.ind TX
theorem FV(base n:Nat)(hb:base<=192)(hn:n<16777216)(w:World):
 Calls prog 143 #[.int .i64 base, .int .i64 n] w λe w'=>e= .returned (.slice (some ⟨w.heap.size,0,none⟩) (hd base n).length (hd base n).length)/\Row w.heap.size w' (hd base n)/\Below w.heap.size w w':=by
 by_cases h5:n<=55
 ·have e:hd base n=[((base+n:Nat):Int)]:=by unfold hd;rw[Ai h5]
  rw[e];have hi:(n:Int)<=55:=by omega
  clear e;go_enter func143,ntmps143;go_wp2_with fail;go_ret;exact⟨rfl,by unfold Row;rw[Aj];simp,(Ak _ _).alloc (Aa _) _⟩
 have h5i:¬(n:Int)<=55:=by omega
 by_cases h6:n<256
 ·have e:hd base n=[((base+56:Nat):Int),(n:Int)]:=by
   unfold hd;rw[Ae h5,U4 (by omega) h6,NG (by omega) h6]
  rw[e];have hi:(n:Int)<256:=by omega
  clear e;go_enter func143,ntmps143;go_wp2_with fail;go_ret;exact⟨rfl,by unfold Row;rw[Aj];simp,(Ak _ _).alloc (Aa _) _⟩
 have h6i:¬(n:Int)<256:=by omega
 by_cases h7:n<65536
 ·have e:hd base n=[((base+57:Nat):Int),((n/256:Nat):Int),((n%256:Nat):Int)]:=by
   unfold hd;rw[Ae h5,U5 (by omega) h7,NH (by omega) h7]
  rw[e];have hi:(n:Int)<65536:=by omega
  have q1:(n:Int)/256<256:=by omega
  clear e;go_enter func143,ntmps143;go_wp2_with fail;go_ret;exact⟨rfl,by unfold Row;rw[Aj];simp,(Ak _ _).alloc (Aa _) _⟩
 have h7i:¬(n:Int)<65536:=by omega
 have e:hd base n=[((base+58:Nat):Int),((n/65536:Nat):Int),((n/256%256:Nat):Int),((n%256:Nat):Int)]:=by
  unfold hd;rw[Ae h5,U6 (by omega) hn,Jh (by omega) hn]
 rw[e];have q1:(n:Int)/65536<256:=by omega
 clear e;go_enter func143,ntmps143;go_wp2_with fail;go_ret;exact⟨rfl,by unfold Row;rw[Aj];simp,(Ak _ _).alloc (Aa _) _⟩
theorem TY(w:World)(base:Nat):OwnB w base (.slice none 0 0) []:=⟨rfl, .inl ⟨rfl,rfl⟩⟩
theorem XQ{g:Nat}{bs:List Int}(h:Row g w bs)(base:Nat)(hb:base<=g)(hl:bs.length<=1000):OwnB w base (.slice (some ⟨g,0,none⟩) bs.length bs.length) bs:=by
 refine⟨by rw[AZ,BS], .inr ⟨g,bs.length,_,rfl,hb,h,Aa _,by unfold maxLen;omega,by simp,by rw[BS];exact A8 (by simp)⟩⟩
theorem Ow(h:n<16777216):(hd base n).length<=4:=by
 rw[hd_len];have:=GO h;split<;>omega
theorem Z6(hb:base<=192)(hn:n<16777216):∀z∈hd base n,0<=z/\z<256:=by
 have h3:=GO hn;unfold hd;split
 ·intro z hz;have e:z=((base+n:Nat):Int):=by simpa using hz
  omega
 ·intro z hz;rcases AP.1 hz with e|hz
  ·omega
  ·exact MI n z hz
def Nw(base:Nat)(a:Option Addr):Prop:=∀g off,a=some ⟨g,off,none⟩->base<=g
theorem OwnB.agn{v:Value}{bs:List Int}(h:OwnB w base v bs)(hb:∀x∈bs,0<=x/\x<256):∃a cap,v= .slice a bs.length cap/\Ag w a bs.length cap bs/\Nw base a:=by
 obtain⟨a,cap,e,hag⟩:=OwnB.ag h hb;refine⟨a,cap,e,hag,λg off ha=>?_⟩;subst ha;rw[e]at h;exact OwnB.lt h g rfl
theorem Nw.mono{b b':Nat}{a:Option Addr}(h:Nw b a)(hb:b'<=b):Nw b' a:=λg off e=>Ar hb (h g off e)
def BytesSaid(t:T):Prop:=∀(x:V)(w:World),Lies w t x->(bodyOf t).length<=16777215->
 Calls prog 125 #[.agg #[.bool x.l, .slice x.ba x.bn x.bc, .slice x.ia x.m x.ic]] w λe w'=>(∃a n c,e= .returned (.slice a n c)/\Ag w' a n c (enc t)/\(x.l=true->Nw w.heap.size a))/\Below w.heap.size w w'
structure Gb(W:World)(B:Nat)(bs:List Int)(its:List T)(j:Nat)(q:Value)(v:World)(cur:List Int):Prop where
 own:OwnB v B q cur
 eq:cur=bs++encs (its.take j)
 bel:Below B W v
 by8:∀x∈cur,0<=x/\x<256
theorem Rc(l:Bool)(bs:List Int)(its:List T)(ih:∀t∈its,BytesSaid t)(x:V)(w:World)(hx:Lies w (.mk l bs its) x)(hlen:(bs++encs its).length<=16777215):
 Calls prog 144 #[.agg #[.bool x.l, .slice x.ba x.bn x.bc, .slice x.ia x.m x.ic]] w λe w'=>(∃a n c,e= .returned (.slice a n c)/\Ag w' a n c (bs++encs its))/\Below w.heap.size w w':=by
 obtain⟨xl,xag,xm,xic,xic2,⟨xbn,xm2⟩,xall⟩:=lies_eq.1 hx;have HBN:=ZQ (below_new w (.cells #[.bool x.l, .slice x.ba x.bn x.bc, .slice x.ia x.m x.ic] 109));have HBX:=ZQ (EP w x);have HX:=ZQ (Ci HBN.out _ x hx);have HAG:=ZQ (xag.at HBN.out);have HXM:=ZQ xm;have HIH:=ZQ ih;have HLEN:=ZQ hlen;have hbl:=xag.l;rw[Ab]at hlen;obtain⟨W,hW⟩:∃W,w.alloc (.cells #[.bool x.l, .slice x.ba x.bn x.bc, .slice x.ia x.m x.ic] 109)=W:=⟨_,rfl⟩;have hsz:W.heap.size=w.heap.size+1:=by rw[<-hW];simp
 have HWW:=ZQ hW;rw[hW]at HBN HBX HX HAG;clear hx xag xall xm xl ih xic xic2 hW;obtain⟨xl,xba,xbn',xbc,xia,xm',xic'⟩:=x;simp only at xbn xm2 HBX HX HAG HXM hbl HWW;obtain⟨c0,c1,c2⟩:=HBX.out;simp only at c0 c1 c2;go_enter func144,ntmps144;go_upto_region 2 with fail;rw[HWW.out];go_wp2_with (first|(at_builtin;refine DL rfl (.tmp 5) (.tmp 7) rfl W.heap.size _ [] rfl (TY W _) xba xbn' xbc bs rfl HAG.out.i HAG.out.nil HAG.out.l (by simp;omega) (Aa _) ?_;intro v1 w1 o1 hb1;rw[AL]at o1;have HO1:=ZQ o1;have HB1:=ZQ hb1;clear o1 hb1))
 go_loopw [3,4] (λq i v=>∃(j:Nat)(cur:List Int),j<=xm'/\i= .int .i64 j/\Gb W W.heap.size bs its j q v cur) (λ_ i _=>xm'-(intOf i).toNat)
 case atStart=>exact⟨0,bs,by omega,rfl,⟨HO1.out,by rw[BL,Cr,A4],HB1.out,HAG.out.b⟩⟩
 case round=>
  clear HO1 HB1;obtain⟨j,cur,hj,rfl,G⟩:=hrel;obtain⟨d0,d1,d2⟩:=HBX.out.go G.bel;simp only at d0 d1 d2;have HG:=ZQ G;clear G;by_cases hlt:j<xm'
  ·have hji:(j:Int)<xm':=(by omega);obtain⟨t,ht⟩:∃t,its[j]?=some t:=⟨its[j]'(by have:=HXM.out;omega),Ac _⟩;obtain⟨g,off,y,A⟩:=Eh (lies_eq.1 HX.out).2.2.2.2.2.2 j t ht;rw[AM]at A;have ha:xia=some ⟨g,off,none⟩:=A.ha;subst ha;have y0:=AW HG.out.bel A.c0;have y1:=AW HG.out.bel A.c1;have y2:=AW HG.out.bel A.c2;have hmem:=A6 ht;have a1:=FE t;have a2:=FF hmem;have hcal:=HIH.out t hmem y wr (Ci HG.out.bel t y A.li) (by omega);have hcl:(cur++enc t).length<=16777215:=by
    rw[HG.out.eq,A9];have e1:encs (its.take (j+1))=encs (its.take j)++enc t:=(by rw[DT ht,EZ,C7,Cr,A4]);have e2:(encs (its.take (j+1)++its.drop (j+1))).length=(encs its).length:=(by rw[Be]);rw[EZ,Ab,e1,Ab]at e2;rw[Ab,Ab];omega
   rw[Ab]at hcl;have HC:=ZQ hcal;have HT:=ZQ ht;clear hcal ht A a1 a2 hmem;go_wp2_with fail;refine HC.out.mono ?_;rintro e w1⟨⟨a1,n1,c1',rfl,hag1,-⟩,hb1⟩;have hl1:=hag1.l;have HA1:=ZQ hag1;have HO1:=ZQ (HG.out.own.below hb1);have hbb:=HG.out.bel.trans (hb1.mono HG.out.bel.size);have HB1:=ZQ hbb;have HMEM:=ZQ (KR HG.out.by8 hag1.b);clear hag1 hb1 hbb HC d0 d1 d2 c0 c1 c2;go_wp2_with (first|(at_builtin;refine DL rfl (.tmp 16) (.tmp 22) rfl W.heap.size _ cur rfl HO1.out a1 n1 c1' (enc t) rfl HA1.out.i HA1.out.nil HA1.out.l (by omega) HB1.out.size ?_;intro v2 w2 o2 hb2;obtain⟨a2,c2',rfl,hag2⟩:=OwnB.ag o2 HMEM.out;have HO2:=ZQ o2;have HB2:=ZQ (HB1.out.trans hb2);clear o2 hb2 hag2;generalize hgl:(cur++enc t).length=len2 at HO2⊢;clear hgl));refine⟨⟨j+1,cur++enc t,by omega,by simp,⟨HO2.out,?_,HB2.out,HMEM.out⟩⟩,by simp[intOf];omega⟩;rw[HG.out.eq,DT HT.out,EZ,C7,Cr,A4,A9]
  ·have hji:¬(j:Int)<xm':=(by omega);have htk:its.take j=its:=A8 (by rw[<-HXM.out];omega);have heq:=HG.out.eq;rw[htk]at heq;subst heq;obtain⟨ba,bc,hq,hagb⟩:=OwnB.ag HG.out.own HG.out.by8;subst hq;have HAB:=ZQ hagb;obtain⟨L,hL⟩:∃L,(bs++encs its).length=L:=⟨_,rfl⟩;rw[hL]at HAB⊢;clear hagb htk hL;go_wp2_with fail;go_ret;exact⟨⟨_,_,_,rfl,HAB.out⟩,HBN.out.trans (HG.out.bel.mono (by omega))⟩
theorem PA(l:Bool)(bs:List Int)(its:List T)(ih:∀t∈its,BytesSaid t):BytesSaid (.mk l bs its):=by
 intro x w hx hlen;have hlen2:(bs++encs its).length<=16777215:=hlen;have xl:=(lies_eq.1 hx).1;have HBN:=ZQ (below_new w (.cells #[.bool x.l, .slice x.ba x.bn x.bc, .slice x.ia x.m x.ic] 109));have HBX:=ZQ (EP w x);have hcal:=Rc l bs its ih x _ (Ci HBN.out _ x hx) hlen2;have HC:=ZQ hcal;have henc:=Ew l bs its;obtain⟨body,hbody⟩:∃body,bs++encs its=body:=⟨_,rfl⟩;rw[hbody]at HC henc hlen2;obtain⟨E,hE⟩:∃E,enc (.mk l bs its)=E:=⟨_,rfl⟩;rw[hE];rw[hE]at henc;have HEN:=ZQ henc;obtain⟨xl',xba,xbn,xbc,xia,xm,xic⟩:=x;simp only at xl HC HBX HBN;subst xl;clear hx hcal henc hbody hlen ih hE;go_enter func125,ntmps125;go_wp2_with fail;refine HC.out.mono ?_;rintro e w1⟨⟨a1,n1,c1,rfl,hag1⟩,hb1⟩;obtain⟨d0,d1,d2⟩:=HBX.out.go hb1;simp only at d0 d1 d2;have HB1:=ZQ (below_go HBN.out hb1);have hl1:=hag1.l;have HA1:=ZQ hag1;have hfull:∀(base:Nat),base=baseOf xl'->base<=192->∀w2,Below w1.heap.size w1 w2->Row w1.heap.size w2 (hd base n1)->OwnB w2 w1.heap.size (.slice (some ⟨w1.heap.size,0,none⟩) (hd base n1).length (hd base n1).length) (hd base n1)/\(hd base n1).length<=4/\∀z∈hd base n1++body,0<=z/\z<256:=by
  intro base _ hb w2 _ hrow;have h4:=Ow (base:=base) (n:=n1) (by omega);exact⟨XQ hrow _ (Aa _) (by omega),h4,KR (Z6 hb (by omega)) hag1.b⟩
 have HF:=ZQ hfull;clear hag1 hb1 HC hfull HBX HBN;have hn24:n1<16777216:=by omega
 by_cases hbare:bare xl' body=true
 ·have hbr:=hbare;unfold bare at hbr;simp only[BN,Dv]at hbr;obtain⟨b1,b2,b3⟩:=hbr;have bx:xl'=false:=by simpa using b1
  subst bx;have hn1:n1=1:=by omega
  subst hn1;have HRE:Hid (E=body):=ZQ (by rw[HEN.out,Ai hbare]);obtain⟨g,off,rfl,hc1,hc2,hc⟩:=ag_head HA1.out (by omega);unfold maxLen at hc2;have hc0:=hc 0 (by omega);rw[CD]at hc0;have hh:body.getD 0 0=body.headD 0:=by cases body<;>rfl
  have hz:=(HA1.out.b (body.getD 0 0) (by rw[List.getD,Ac (by omega)];exact Bw _)).1;rw[<-hh]at b3;generalize body.getD 0 0=z at*;clear hc hbare b1 b2 hh hl1;go_wp2_with fail;go_ret;exact⟨⟨_,_,_,rfl,by rw[HRE.out];exact HA1.out,by first|exact(λh=>by cases h)|simp⟩,HB1.out⟩
 cases xl' with
 |true=>
  have HRE:Hid (E=hd 192 n1++body):=ZQ (by rw[HEN.out,Ae hbare,hl1];rfl);clear hbare hl1;go_wp2_with fail;refine(FV 192 n1 (by decide) (by omega) _).mono ?_;rintro e w2⟨rfl,hrow,hb2⟩;obtain⟨o2,h4,h256⟩:=HF.out 192 rfl (by decide) w2 hb2 hrow;have HO2:=ZQ o2;have H256:=ZQ h256;have HA2:=ZQ (HA1.out.at hb2);have HB2:=ZQ (below_go HB1.out hb2);have hz:=HB1.out.size;have hz2:=hb2.size;obtain⟨K,hK⟩:∃K,(hd 192 n1).length=K:=⟨_,rfl⟩;rw[hK]at HO2 h4⊢;have HKK:=ZQ hK;clear o2 h256 hrow hb2 hK;go_wp2_with (first|(at_builtin;refine DL rfl (.tmp 29) (.tmp 30) rfl w1.heap.size _ (hd 192 n1) rfl HO2.out _ n1 c1 body rfl HA2.out.i HA2.out.nil HA2.out.l (by rw[HKK.out];omega) hz2 ?_;intro v3 w3 o3 hb3;obtain⟨a3,c3,rfl,hag3,hnw3⟩:=OwnB.agn o3 H256.out;have HNW:=ZQ (hnw3.mono hz);have HA3:=ZQ hag3;have HB3:=ZQ (HB2.out.trans (hb3.mono hz));clear o3 hag3 hb3 hnw3;generalize hgl:(hd 192 n1++body).length=len3 at HA3⊢;clear hgl));go_ret;exact⟨⟨_,_,_,rfl,by rw[HRE.out];exact HA3.out,by first|exact HNW.out|exact λ_=>HNW.out⟩,HB3.out⟩
 |false=>
  have HRE:Hid (E=hd 128 n1++body):=ZQ (by rw[HEN.out,Ae hbare,hl1];rfl);by_cases hn1:n1=1
  ·have hnb:((n1:Int)==1)=true:=(by rw[D6];omega);have hnp:0<n1:=(by omega);obtain⟨g,off,rfl,hc1,hc2,hc⟩:=ag_head HA1.out (by omega);unfold maxLen at hc2;have hc0:=hc 0 (by omega);rw[CD]at hc0;have hh:body.getD 0 0=body.headD 0:=(by cases body<;>rfl);have hz:=(HA1.out.b (body.getD 0 0) (by rw[List.getD,Ac (by omega)];exact Bw _)).2;have hge:¬body.getD 0 0<128:=λh=>hbare (by unfold bare;rw[<-hh,AT h,AT (show body.length=1 by omega)];rfl);generalize body.getD 0 0=z at*;clear hc hbare hh hl1 hn1;go_wp2_with fail;refine(FV 128 n1 (by decide) (by omega) _).mono ?_;rintro e w2⟨rfl,hrow,hb2⟩;obtain⟨o2,h4,h256⟩:=HF.out 128 rfl (by decide) w2 hb2 hrow;have HO2:=ZQ o2;have H256:=ZQ h256;have HA2:=ZQ (HA1.out.at hb2);have HB2:=ZQ (below_go HB1.out hb2);have hz:=HB1.out.size;have hz2:=hb2.size;obtain⟨K,hK⟩:∃K,(hd 128 n1).length=K:=⟨_,rfl⟩;rw[hK]at HO2 h4⊢;have HKK:=ZQ hK;clear o2 h256 hrow hb2 hK;go_wp2_with (first|(at_builtin;refine DL rfl (.tmp 29) (.tmp 30) rfl w1.heap.size _ (hd 128 n1) rfl HO2.out _ n1 c1 body rfl HA2.out.i HA2.out.nil HA2.out.l (by rw[HKK.out];omega) hz2 ?_;intro v3 w3 o3 hb3;obtain⟨a3,c3,rfl,hag3⟩:=OwnB.ag o3 H256.out;have HA3:=ZQ hag3;have HB3:=ZQ (HB2.out.trans (hb3.mono hz));clear o3 hag3 hb3;generalize hgl:(hd 128 n1++body).length=len3 at HA3⊢;clear hgl));go_ret;exact⟨⟨_,_,_,rfl,by rw[HRE.out];exact HA3.out,by first|exact(λh=>by cases h)|simp⟩,HB3.out⟩
  ·have hnb:((n1:Int)==1)=false:=(by rw[Bp];omega);clear hbare hl1;go_wp2_with fail;refine(FV 128 n1 (by decide) (by omega) _).mono ?_;rintro e w2⟨rfl,hrow,hb2⟩;obtain⟨o2,h4,h256⟩:=HF.out 128 rfl (by decide) w2 hb2 hrow;have HO2:=ZQ o2;have H256:=ZQ h256;have HA2:=ZQ (HA1.out.at hb2);have HB2:=ZQ (below_go HB1.out hb2);have hz:=HB1.out.size;have hz2:=hb2.size;obtain⟨K,hK⟩:∃K,(hd 128 n1).length=K:=⟨_,rfl⟩;rw[hK]at HO2 h4⊢;have HKK:=ZQ hK;clear o2 h256 hrow hb2 hK;go_wp2_with (first|(at_builtin;refine DL rfl (.tmp 29) (.tmp 30) rfl w1.heap.size _ (hd 128 n1) rfl HO2.out _ n1 c1 body rfl HA2.out.i HA2.out.nil HA2.out.l (by rw[HKK.out];omega) hz2 ?_;intro v3 w3 o3 hb3;obtain⟨a3,c3,rfl,hag3⟩:=OwnB.ag o3 H256.out;have HA3:=ZQ hag3;have HB3:=ZQ (HB2.out.trans (hb3.mono hz));clear o3 hag3 hb3;generalize hgl:(hd 128 n1++body).length=len3 at HA3⊢;clear hgl));go_ret;exact⟨⟨_,_,_,rfl,by rw[HRE.out];exact HA3.out,by first|exact(λh=>by cases h)|simp⟩,HB3.out⟩
theorem Rd:∀t,BytesSaid t:=T.ind PA
mutual
def rsz:T->Nat
 | .mk l bs its=>if bare l bs then 1 else if 16777215<(if l then 0 else bs.length)+rszs its then(if l then 0 else bs.length)+rszs its else szOf true [] ((if l then 0 else bs.length)+rszs its)
def rszs:List T->Nat
 |[]=>0
 |t::r=>rsz t+rszs r
end
theorem Wm(l:Bool)(bs:List Int)(its:List T):rsz (.mk l bs its)=if bare l bs then 1 else if 16777215<(if l then 0 else bs.length)+rszs its then(if l then 0 else bs.length)+rszs its else szOf true [] ((if l then 0 else bs.length)+rszs its):=by rw[rsz]
theorem Gm:rszs []=0:=by rw[rszs]
theorem ID(t:T)(r:List T):rszs (t::r)=rsz t+rszs r:=by rw[rszs]
theorem Ir:∀a b:List T,rszs (a++b)=rszs a+rszs b
 |[],b=>by rw[Gm];simp
 |t::r,b=>by rw[Cq,ID,ID,Ir r b];omega
theorem No{its:List T}{k:Nat}{t:T}(h:its[k]?=some t):rszs (its.take (k+1))=rszs (its.take k)+rsz t:=by
 rw[DT h,Ir,ID,Gm];rfl
def Like(a b:Nat):Prop:=a=b∨(16777215<a/\16777215<b/\a<=b)
theorem IE:∀{its:List T},(∀t∈its,Like (rsz t) (sz t))->Like (rszs its) (szs its)
 |[],_=>by rw[Gm,FM];exact .inl rfl
 |t::r,h=>by
  rw[ID,G3];have h1:=h t (BY ..);have h2:=IE λu hu=>h u (AN _ hu);unfold Like at*;omega
theorem Np(n:Nat):szOf true [] n=1+n+(if 55<n then nb n else 0):=by unfold szOf bare;simp
theorem PB:∀t,form t=true->Like (rsz t) (sz t):=by
 refine T.ind λl bs its ih h=>?_;rw[Wm,RH];cases l with
 |false=>
  have hi:=Eu h;subst hi;rw[Gm,FM];simp only[Cd,Er,CD];by_cases hb:bare false bs=true
  ·rw[Ai hb];unfold szOf;rw[Ai hb];unfold bare at hb;simp only[BN,Dv]at hb;exact .inl hb.2.1.symm
  ·rw[Ae hb];have e:szOf false bs bs.length=szOf true [] bs.length:=(by rw[Np];unfold szOf;rw[Ae hb]);rw[e];by_cases hm:16777215<bs.length
   ·rw[Ai hm];have:=KX true [] bs.length;exact .inr ⟨hm,by omega,this⟩
   ·rw[Ae hm];exact .inl rfl
 |true=>
  obtain⟨hb,hf⟩:=Fa h;subst hb;have hk:=IE λt ht=>ih t ht (Du hf t ht);rw[Ae (by simp[bare]),Ai rfl,AM,show([]:List Int).length+szs its=szs its from by simp];have hg:=KX true [] (szs its);unfold Like at*;rcases hk with hk|⟨h1,h2,h3⟩
  ·rw[hk];by_cases hm:16777215<szs its
   ·rw[Ai hm];exact .inr ⟨hm,by omega,hg⟩
   ·rw[Ae hm];exact .inl rfl
  ·rw[Ai h1];exact .inr ⟨h1,by omega,by omega⟩
theorem XR{its:List T}(h:forms its=true):rszs its<=szs its:=by
 have:=IE λt ht=>PB t (Du h t ht);unfold Like at this;omega
theorem Nq{its:List T}(k:Nat):rszs (its.take k)<=rszs its:=by
 have e:=Ir (its.take k) (its.drop k);rw[Be]at e;omega
theorem Ox:szOf true [] n=n+(hd 0 n).length:=by
 rw[Np,hd_len];split<;>omega
def SizeSaid(t:T):Prop:=∀(x:V)(w:World),Lies w t x->form t=true->rsz t<=1000000000000->
 Calls prog 124 #[.agg #[.bool x.l, .slice x.ba x.bn x.bc, .slice x.ia x.m x.ic]] w λe w'=>e= .returned (.int .i64 (rsz t:Nat))/\Below w.heap.size w w'
theorem TZ(l:Bool)(bs:List Int)(its:List T)(ih:∀t∈its,SizeSaid t):SizeSaid (.mk l bs its):=by
 intro x w hx hf hbig;obtain⟨xl,xag,xm,xic,xic2,⟨xbn,xm2⟩,xall⟩:=lies_eq.1 hx;have HBN:=ZQ (below_new w (.cells #[.bool x.l, .slice x.ba x.bn x.bc, .slice x.ia x.m x.ic] 109));have HBX:=ZQ (EP w x);have HX:=ZQ (Ci HBN.out _ x hx);have HAG:=ZQ (xag.at HBN.out);have HXM:=ZQ xm;have HIH:=ZQ ih;have hbl:=xag.l;have hre:=Wm l bs its;obtain⟨R0,hR0⟩:∃R0,rsz (.mk l bs its)=R0:=⟨_,rfl⟩;rw[hR0];rw[hR0]at hre hbig;obtain⟨xl',xba,xbn',xbc,xia,xm',xic'⟩:=x;simp only at xl xbn xm2 HBX HBN HX HAG HXM hbl xm;subst xl;obtain⟨W,hW⟩:∃W,w.alloc (.cells #[.bool xl', .slice xba xbn' xbc, .slice xia xm' xic'] 109)=W:=⟨_,rfl⟩;have HWW:=ZQ hW;rw[hW]at HBN HBX HX HAG;clear hx xag xall ih xic xic2 hW hR0;cases xl' with
 |false=>
  have hi:=Eu hf;subst hi;have hm0:xm'=0:=xm;subst hm0;simp only[Cd,Er,Gm,CD]at hre;by_cases hbare:bare false bs=true
  ·rw[Ai hbare]at hre;subst hre;unfold bare at hbare;simp only[BN,Dv]at hbare;obtain⟨_,b2,b3⟩:=hbare;have hn1:xbn'=1:=(by omega);subst hn1;obtain⟨g,off,rfl,hc1,hc2,hc⟩:=ag_head HAG.out (by omega);unfold maxLen at hc2;have hc0:=hc 0 (by omega);rw[CD,<-HWW.out]at hc0;have hh:bs.getD 0 0=bs.headD 0:=(by cases bs<;>rfl);have hz:=(HAG.out.b (bs.getD 0 0) (by rw[List.getD,Ac (by omega)];exact Bw _)).1;rw[<-hh]at b3;generalize bs.getD 0 0=z at*;clear hc hh b2 hbl hf xm;go_enter func124,ntmps124;go_wp2_with fail;go_ret;exact⟨rfl,by rw[HWW.out];exact HBN.out⟩
  rw[Ae hbare,hbl]at hre;have HR0:=ZQ hre.symm;clear hre;by_cases hn1:xbn'=1
  ·have hnb:((xbn':Int)==1)=true:=(by rw[D6];omega);have hnp:0<xbn':=(by omega);obtain⟨g,off,rfl,hc1,hc2,hc⟩:=ag_head HAG.out (by omega);unfold maxLen at hc2;have hc0:=hc 0 (by omega);rw[CD,<-HWW.out]at hc0;have hh:bs.getD 0 0=bs.headD 0:=(by cases bs<;>rfl);have hz:=(HAG.out.b (bs.getD 0 0) (by rw[List.getD,Ac (by omega)];exact Bw _)).2;have hge:¬bs.getD 0 0<128:=λh=>hbare (by unfold bare;rw[<-hh,AT h,AT (show bs.length=1 by omega)];rfl);generalize bs.getD 0 0=z at*;clear hc hh hbl hf xm hbare hn1;go_enter func124,ntmps124;go_wp2_with fail;rw[HWW.out]
   go_loopw [3,4] (λp q v=>p= .int .i64 xbn'/\q= .int .i64 0/\Below W.heap.size W v) (λ_ _ _=>0)
   case atStart=>exact⟨rfl,rfl,Ak _ _⟩
   case round=>
    obtain⟨rfl,rfl,hbv⟩:=hrel;obtain⟨d0,d1,d2⟩:=HBX.out.go hbv;simp only at d0 d1 d2;have HBV:=ZQ hbv;clear hbv;by_cases hmax:16777215<xbn'
    ·have hmi:(xbn':Int)>16777215:=(by omega);have e:R0=xbn':=(by rw[<-HR0.out,Ai hmax]);subst e;go_wp2_with fail;go_ret;exact⟨rfl,below_go HBN.out HBV.out⟩
    ·have hmi:¬(xbn':Int)>16777215:=(by omega);have e:R0=xbn'+(hd 0 xbn').length:=(by rw[<-HR0.out,Ae hmax,Ox]);have h4:=Ow (base:=0) (n:=xbn') (by omega);have hcal:=FV 0 xbn' (by omega) (by omega) wr;rw[show((0:Nat):Int)=0 from rfl]at hcal;obtain⟨K,hK⟩:∃K,(hd 0 xbn').length=K:=⟨_,rfl⟩;rw[hK]at hcal e h4;subst e;have HC:=ZQ hcal;clear hcal hK;go_wp2_with fail;refine HC.out.mono ?_;rintro e w2⟨rfl,_,hb2⟩;have HB2:=ZQ (below_go HBV.out hb2);clear hb2;go_wp2_with fail;go_ret;exact⟨by simp,below_go HBN.out HB2.out⟩
  ·have hnb:((xbn':Int)==1)=false:=(by rw[Bp];omega);clear hbl hf xm hbare;go_enter func124,ntmps124;go_wp2_with fail;rw[HWW.out]
   go_loopw [3,4] (λp q v=>p= .int .i64 xbn'/\q= .int .i64 0/\Below W.heap.size W v) (λ_ _ _=>0)
   case atStart=>exact⟨rfl,rfl,Ak _ _⟩
   case round=>
    obtain⟨rfl,rfl,hbv⟩:=hrel;obtain⟨d0,d1,d2⟩:=HBX.out.go hbv;simp only at d0 d1 d2;have HBV:=ZQ hbv;clear hbv;by_cases hmax:16777215<xbn'
    ·have hmi:(xbn':Int)>16777215:=(by omega);have e:R0=xbn':=(by rw[<-HR0.out,Ai hmax]);subst e;go_wp2_with fail;go_ret;exact⟨rfl,below_go HBN.out HBV.out⟩
    ·have hmi:¬(xbn':Int)>16777215:=(by omega);have e:R0=xbn'+(hd 0 xbn').length:=(by rw[<-HR0.out,Ae hmax,Ox]);have h4:=Ow (base:=0) (n:=xbn') (by omega);have hcal:=FV 0 xbn' (by omega) (by omega) wr;rw[show((0:Nat):Int)=0 from rfl]at hcal;obtain⟨K,hK⟩:∃K,(hd 0 xbn').length=K:=⟨_,rfl⟩;rw[hK]at hcal e h4;subst e;have HC:=ZQ hcal;clear hcal hK;go_wp2_with fail;refine HC.out.mono ?_;rintro e w2⟨rfl,_,hb2⟩;have HB2:=ZQ (below_go HBV.out hb2);clear hb2;go_wp2_with fail;go_ret;exact⟨by simp,below_go HBN.out HB2.out⟩
 |true=>
  obtain⟨hb,hfs⟩:=Fa hf;subst hb;simp only[if_true,AM]at hre;rw[Ae (by simp[bare])]at hre;have HR0:=ZQ hre.symm;have HFS:=ZQ hfs;have hrb:rszs its<=1000000000000:=by
   rw[hre]at hbig;split at hbig
   ·exact hbig
   ·have:=KX true [] (rszs its);omega
  clear hre hf hfs hbl xm;go_enter func124,ntmps124;go_wp2_with fail;rw[HWW.out]
  go_loopw [3,4] (λp q v=>∃u:Nat,u<=xm'/\q= .int .i64 u/\p= .int .i64 (rszs (its.take u):Nat)/\Below W.heap.size W v) (λ_ q _=>xm'-(intOf q).toNat)
  case atStart=>exact⟨0,by omega,rfl,by rw[BL,Gm];rfl,Ak _ _⟩
  case round=>
   obtain⟨u,hu,rfl,rfl,hbv⟩:=hrel;obtain⟨d0,d1,d2⟩:=HBX.out.go hbv;simp only at d0 d1 d2;have HBV:=ZQ hbv;clear hbv;by_cases hlt:u<xm'
   ·have hui:(u:Int)<xm':=(by omega);obtain⟨t,ht⟩:∃t,its[u]?=some t:=⟨its[u]'(by have:=HXM.out;omega),Ac _⟩;obtain⟨g,off,y,A⟩:=Eh (lies_eq.1 HX.out).2.2.2.2.2.2 u t ht;rw[AM]at A;have ha:xia=some ⟨g,off,none⟩:=A.ha;subst ha;have y0:=AW HBV.out A.c0;have y1:=AW HBV.out A.c1;have y2:=AW HBV.out A.c2;have hmem:=A6 ht;have hmore:=No ht;have hle:=Nq (its:=its) (u+1);have hcal:=HIH.out t hmem y wr (Ci HBV.out t y A.li) (Du HFS.out t hmem) (by omega);obtain⟨r1,hr1⟩:∃r1,rszs (its.take u)=r1:=⟨_,rfl⟩;obtain⟨r2,hr2⟩:∃r2,rsz t=r2:=⟨_,rfl⟩;rw[hr1,hr2]at hmore;rw[hr1];rw[hr2]at hcal;have HC:=ZQ hcal;have HMO:=ZQ hmore;have hb1:r1+r2<=1000000000000:=(by omega);clear hcal ht A hmem hmore hle hr1 hr2;go_wp2_with fail;refine HC.out.mono ?_;rintro e w1⟨rfl,hb2⟩;have HB2:=ZQ (below_go HBV.out hb2);clear hb2;go_wp2_with fail;exact⟨⟨u+1,by omega,by simp,by rw[HMO.out];simp,HB2.out⟩,by simp[intOf];omega⟩
   ·have hui:¬(u:Int)<xm':=(by omega);have htk:its.take u=its:=A8 (by rw[<-HXM.out];omega);rw[htk];obtain⟨S0,hS0⟩:∃S0,rszs its=S0:=⟨_,rfl⟩;rw[hS0]at HR0 hrb⊢;clear htk hS0;by_cases hmax:16777215<S0
    ·have hmi:(S0:Int)>16777215:=(by omega);have e:R0=S0:=(by rw[<-HR0.out,Ai hmax]);subst e;go_wp2_with fail;go_ret;exact⟨rfl,below_go HBN.out HBV.out⟩
    ·have hmi:¬(S0:Int)>16777215:=(by omega);have e:R0=S0+(hd 0 S0).length:=(by rw[<-HR0.out,Ae hmax,Ox]);have h4:=Ow (base:=0) (n:=S0) (by omega);have hcal:=FV 0 S0 (by omega) (by omega) wr;rw[show((0:Nat):Int)=0 from rfl]at hcal;obtain⟨K,hK⟩:∃K,(hd 0 S0).length=K:=⟨_,rfl⟩;rw[hK]at hcal e h4;subst e;have HC:=ZQ hcal;clear hcal hK;go_wp2_with fail;refine HC.out.mono ?_;rintro e w2⟨rfl,_,hb2⟩;have HB2:=ZQ (below_go HBV.out hb2);clear hb2;go_wp2_with fail;go_ret;exact⟨by simp,below_go HBN.out HB2.out⟩
theorem Wr:∀t,SizeSaid t:=T.ind TZ
theorem Wu{l:Bool}{bs:List Int}{its:List T}(h:(wk (.mk l bs its) 0 0).2=0):bs.length<=16777215/\szs its<=167772150/\rszs its<=szs its/\Like (rszs its) (szs its):=by
 have hf:=Jk _ 0 0 h;obtain⟨h1,h2,h3,h4⟩:=OD h;have hw:=Fb h2;have hb:bs.length<=16777215:=by
  cases l with
  |true=>have e:bs=[]:=(by simpa using hw);rw[e];simp
  |false=>unfold wt at h3;simp at h3;omega
 have hfs:forms its=true:=by
  cases l with
  |true=>exact(Fa hf).2
  |false=>rw[Eu hf,EH]
 have hk:=IE λt ht=>PB t (Du hfs t ht);rw[h4]at h;obtain⟨W,hW⟩:∃W,wks its 1 (0+wt l bs 0)=(W,0):=⟨(wks its 1 (0+wt l bs 0)).1,Prod.ext rfl h⟩;have hbd:=JU (by omega) h3 hW;exact⟨hb,by omega,XR hfs,hk⟩
theorem KO(t:T)(x:V)(w:World)(hx:Lies w t x):
 Calls prog 88 #[.agg #[.bool x.l, .slice x.ba x.bn x.bc, .slice x.ia x.m x.ic]] w λe w'=>(∃a n c,e= .returned (.tuple #[.slice a n c, .int .i64 ((encP t).2:Nat)])/\Ag w' a n c (encP t).1/\(x.l=true->Nw w.heap.size a))/\Below w.heap.size w w':=by
 obtain⟨l,bs,its⟩:=t;have HBN:=ZQ (below_new w (.cells #[.bool x.l, .slice x.ba x.bn x.bc, .slice x.ia x.m x.ic] 109));have HBX:=ZQ (EP w x);have HX:=ZQ (Ci HBN.out _ x hx);have xm:=(lies_eq.1 hx).2.2.1;have xm2:=(lies_eq.1 hx).2.2.2.2.2.1.2;have hbl:=(lies_eq.1 hx).2.1.l;have HXM:=ZQ xm;have hcal:=Wl (.mk l bs its) x _ 0 0 HX.out (by omega) (by omega);rw[show((0:Nat):Int)=0 from rfl]at hcal;obtain⟨⟨ww,er⟩,hwk⟩:∃r,wk (.mk l bs its) 0 0=r:=⟨_,rfl⟩;rw[hwk]at hcal;simp only at hcal;by_cases her:er=0
 case neg=>
  have hm:mP (.mk l bs its)=(0,er):=by unfold mP;rw[hwk,Ai (by simpa using her)]
  have he:encP (.mk l bs its)=([],er):=by unfold encP;rw[hm,Ae (by simpa using her)]
  rw[he];have hee:((er:Int) !=0)=true:=by rw[BT];omega
  have HC:=ZQ hcal;clear hcal hm he hx hwk xm hbl xm2;go_enter func88,ntmps88;go_wp2_with fail;refine HC.out.mono ?_;rintro e w1⟨rfl,hb1⟩;have HB1:=ZQ (below_go HBN.out hb1);clear hb1 HC;go_wp2_with fail;go_ret2;exact⟨⟨none,0,0,rfl,ag_nil _,λ_ g off h=>by cases h⟩,HB1.out⟩
 subst her;rw[show((0:Nat):Int)=0 from rfl]at hcal;have h0:(wk (.mk l bs its) 0 0).2=0:=by rw[hwk]
 obtain⟨s1,s2,s3,s4⟩:=Wu h0;have hfs:forms its=true:=by
  have hf:=Jk _ 0 0 h0;cases l with
  |true=>exact(Fa hf).2
  |false=>rw[Eu hf,EH]
 have hmP:mP (.mk l bs its)=if 16777215<bs.length+szs its then(0,20)else(sz (.mk l bs its),0):=by unfold mP;rw[Ae (by rw[h0];simp)];rfl
 have hN:(16777215<bs.length+szs its)↔(16777215<bs.length+rszs its):=by unfold Like at s4;omega
 have hbody:(bodyOf (.mk l bs its)).length=bs.length+szs its:=by rw[<-Jj (Jk _ 0 0 h0)];rfl
 obtain⟨E,hE⟩:∃E,encP (.mk l bs its)=E:=⟨_,rfl⟩;rw[hE];have HEE:Hid (encP (.mk l bs its)=E):=ZQ hE;have HMP:=ZQ hmP;have HN:=ZQ hN;have HBO:=ZQ hbody;have HFS:=ZQ hfs;have HC:=ZQ hcal;obtain⟨xl,xba,xbn,xbc,xia,xm',xic⟩:=x;simp only at xm2 hbl HBX HBN HX HXM HC;have HBL:=ZQ hbl;obtain⟨LB,hLB⟩:∃LB,bs.length=LB:=⟨_,rfl⟩;have hLx:LB=xbn:=by omega
 subst hLx;clear hcal hE hmP hN hbody hfs hx hwk h0 xm s4 hbl;have HLB:=ZQ hLB;rw[hLB]at s1 HMP HN HBO;clear hLB;go_enter func88,ntmps88;go_wp2_with fail;refine HC.out.mono ?_;rintro e w1⟨rfl,hb1⟩;obtain⟨c0,c1,c2⟩:=HBX.out.go hb1;simp only at c0 c1 c2;have HB1:=ZQ (below_go HBN.out hb1);have HX1:=ZQ (Ci hb1 _ _ HX.out);have HBX1:=ZQ (HBX.out.go hb1);clear hb1 HC HBX HX;go_wp2_with fail
 go_loopw [6,7] (λp q v=>∃u:Nat,u<=xm'/\q= .int .i64 u/\p= .int .i64 (LB+rszs (its.take u):Nat)/\Below w1.heap.size w1 v) (λ_ q _=>xm'-(intOf q).toNat)
 case atStart=>exact⟨0,by omega,rfl,by rw[BL,Gm];rfl,Ak _ _⟩
 case round=>
  clear c0 c1 c2;obtain⟨u,hu,rfl,rfl,hbv⟩:=hrel;obtain⟨d0,d1,d2⟩:=HBX1.out.go hbv;simp only at d0 d1 d2;have HBV:=ZQ hbv;clear hbv;by_cases hlt:u<xm'
  ·have hui:(u:Int)<xm':=(by omega);obtain⟨t,ht⟩:∃t,its[u]?=some t:=⟨its[u]'(by have:=HXM.out;omega),Ac _⟩;obtain⟨g,off,y,A⟩:=Eh (lies_eq.1 HX1.out).2.2.2.2.2.2 u t ht;rw[AM]at A;have ha:xia=some ⟨g,off,none⟩:=A.ha;subst ha;have y0:=AW HBV.out A.c0;have y1:=AW HBV.out A.c1;have y2:=AW HBV.out A.c2;have hmem:=A6 ht;have hmore:=No ht;have hle:=Nq (its:=its) (u+1);have hcal:=Wr t y wr (Ci HBV.out t y A.li) (Du HFS.out t hmem) (by omega);obtain⟨r1,hr1⟩:∃r1,LB+rszs (its.take u)=r1:=⟨_,rfl⟩;obtain⟨r2,hr2⟩:∃r2,rsz t=r2:=⟨_,rfl⟩;have hmo:LB+rszs (its.take (u+1))=r1+r2:=(by omega);rw[hr1];rw[hr2]at hcal;have HC:=ZQ hcal;have HMO:=ZQ hmo;have hb1:r1+r2<=1000000000000:=(by omega);clear hcal ht A hmem hmore hle hr1 hr2 hmo;go_wp2_with fail;refine HC.out.mono ?_;rintro e w2⟨rfl,hb2⟩;have HB2:=ZQ (below_go HBV.out hb2);clear hb2;go_wp2_with fail;exact⟨⟨u+1,by omega,by simp,by rw[HMO.out];simp,HB2.out⟩,by simp[intOf];omega⟩
  ·have hui:¬(u:Int)<xm':=(by omega);have htk:its.take u=its:=A8 (by rw[<-HXM.out];omega);rw[htk];have hn:=HN.out;have hmp:=HMP.out;have hbo:=HBO.out;obtain⟨S0,hS0⟩:∃S0,LB+rszs its=S0:=⟨_,rfl⟩;rw[hS0]at hn⊢;clear htk;by_cases hmax:16777215<S0
   ·have hmi:(S0:Int)>16777215:=(by omega);rw[Ai (hn.2 hmax)]at hmp;have he:E=([],20):=(by rw[<-HEE.out];unfold encP;rw[hmp,Ae (by decide)]);subst he;clear hn hmp hbo hS0;go_wp2_with fail;go_ret2;exact⟨⟨none,0,0,rfl,ag_nil _,λ_ g off h=>by cases h⟩,below_go HB1.out HBV.out⟩
   ·have hmi:¬(S0:Int)>16777215:=(by omega);have hng:¬16777215<LB+szs its:=λh=>hmax (hn.1 h);rw[Ae hng]at hmp;have he:E=(enc (.mk l bs its),0):=(by rw[<-HEE.out];unfold encP;rw[hmp,Ai rfl]);subst he;have hcal:=Rd (.mk l bs its) _ wr (Ci HBV.out _ _ HX1.out) (by omega);have HC:=ZQ hcal;clear hn hmp hbo hS0 hcal;go_wp2_with fail;refine HC.out.mono ?_;rintro e w2⟨⟨a2,n2,c2,rfl,hag2,hnw⟩,hb2⟩;have HNW:=ZQ (λh=>(hnw h).mono (Ar HB1.out.size HBV.out.size));have HA2:=ZQ hag2;have HB2:=ZQ (below_go HBV.out hb2);clear hag2 hb2 hnw;go_wp2_with fail;go_ret2;exact⟨⟨a2,n2,c2,rfl,HA2.out,HNW.out⟩,below_go HB1.out HB2.out⟩
section
variable {a : Act} {w : World}
theorem JM{x:Operand}{p:Addr}{v:Value}{o:Oper}(ho:o.op= .load 66 x)(hx:a.eval x= .pointer (some p))(hc:w.cell? p=some v):(execOp a.eval o).run prog w= .ok (.value v) w:=by
 unfold execOp;rw[ho];simp only[hx];go_simp
theorem Ua{x y:Operand}{g off j m c:Nat}{o:Oper}(ho:o.op= .indexAddr 66 x y)(hx:a.eval x= .slice (some ⟨g,off,none⟩) m c)(hy:a.eval y= .int .i64 j)(hj:j<m):(execOp a.eval o).run prog w= .ok (.value (.pointer (some ⟨g,off+j*34,none⟩))) w:=by
 have hji:(j:Int)<m:=by omega
 unfold execOp;rw[ho];simp only[hx,hy];go_simp
end
section
variable {a : Act} {w : World}
theorem FW{x:Operand}{o:Oper}(ho:o.op= .buildSlice 107 1 #[(0,x)])(p:V)(hx:a.eval x= .agg #[.bool p.l, .slice p.ba p.bn p.bc, .slice p.ia p.m p.ic]):
 (execOp a.eval o).run prog w= .ok (.value (.slice (some ⟨w.heap.size,0,none⟩) 1 1)) (w.alloc (.cells #[.bool p.l, .slice p.ba p.bn p.bc, .slice p.ia p.m p.ic] 109)):=by
 unfold execOp;rw[ho];simp only[CU,BX,DB,hx];go_simp
theorem IF{w':World}{s x:Operand}{o:Oper}(ho:o.op= .call {callee:= .builtin .append,args:=#[s,x],argTypes:=#[107,107]})(v u:Value)(hd:a.eval s=v)(hx:a.eval x=u){v':Value}
 (hr:(Builtin.append_ #[107,107] o.type #[v,u]).run prog w= .ok v' w'):(execOp a.eval o).run prog w= .ok (.value v') w':=by
 simp[execOp,ho,resolve,invoke,builtin,hd,hx,hr,Result.andThen]
theorem FX{x y:Operand}{o:Oper}(ho:o.op= .store 107 x y)(g:Nat)(it old:Value)(h1:∃ia m ic,it= .slice ia m ic)(hx:a.eval x= .pointer (some ⟨g,2,none⟩))(hy:a.eval y=it)(hc:w.cell? ⟨g,2,none⟩=some old)(hf:∀o,w.frozen? ⟨g,o,none⟩=false):
 (execOp a.eval o).run prog w= .ok .skip (w.setCell ⟨g,2,none⟩ it):=by
 obtain⟨ia,m,ic,rfl⟩:=h1;unfold execOp;rw[ho];simp only[hx,hy];go_simp
end
theorem So.one{v:World}{it:Value}{ts:List T}(h:So gI v it ts):∃ia m ic,it= .slice ia m ic:=by
 obtain⟨ia,ic,e,_⟩:=h.full (w:=v);exact⟨ia,_,ic,e⟩
def EEPost(w:World)(n:PN):Ending->World->Prop:=λe w'=>(∃a m c,e= .returned (.tuple #[.slice a m c, .int .i64 (if NR n=true then 0 else 50)])/\Ag w' a m c (if NR n=true then NE n else[])/\Nw w.heap.size a)/\Below w.heap.size w w'
theorem Is{u:World}{it:Value}{TS:List T}{n:PN}(hF:Full gI w u it TS)(hlen:TS.length<=1000)(ht: .mk true [] TS=itemP n)(hb:(mP (itemP n)).2=0):
 ∃ia m ic,it= .slice ia m ic/\Calls prog 88 #[.agg #[.bool true, .slice none 0 0, .slice ia m ic]] u λe w'=>(∃a m c,e= .returned (.tuple #[.slice a m c, .int .i64 0])/\Ag w' a m c (NE n)/\Nw u.heap.size a)/\Below u.heap.size u w':=by
 obtain⟨ia,ic,rfl,f1,f2,f3⟩:=hF;refine⟨ia,_,ic,rfl,(KO (.mk true [] TS) ⟨true,none,0,0,ia,TS.length,ic⟩ u (lies_eq.2 ⟨rfl,⟨.inl ⟨rfl,rfl⟩,λ_=>⟨rfl,rfl⟩,rfl,λx hx=>by cases hx⟩,rfl,f1,f2,⟨AD _,by show TS.length<=_;omega⟩,f3⟩)).mono ?_⟩;rw[ht,G7 hb];rintro e w'⟨⟨a,m,c,e1,e2,e4⟩,e3⟩;exact⟨⟨a,m,c,e1,e2,e4 rfl⟩,e3⟩
theorem En.drew{v:World}{x:NV}{it:Value}(h:En w v x gI it):En w v.drew x gI it:=h.all (Ak _ _).drew
theorem XS{n:PN}(h:NR n=true)(h3:n.k=3):n.ks.length=16:=by
 unfold NR nright rkidsP at h;by_cases h16:n.ks.length=16
 ·exact h16
 ·simp[h3,h16]at h
theorem Wv(K:Nat->Prop)(x:NV)(n:PN)(w:World)(h:NodeAt K w x n)(h3:n.k=3)(hd:∀r,(r=n.c∨r∈n.ks)->r.i.length<32->DDSaid r.i):
 Calls prog 59 #[.agg x.cells.toArray] w (EEPost w n):=by
 have B:=ER w x h.c.len;have HB:=ZQ (below_new w (.cells x.cells.toArray 68));have HH:=ZQ h;obtain⟨q,hq⟩:∃q,NR n=q:=⟨_,rfl⟩
 have HR1:=ZQ (show∀v,Below w.heap.size w v->Calls prog 85 #[.agg x.cells.toArray] v λe w'=>e= .returned (.bool q)/\Below v.heap.size v w' from λv hv=>by
  rw[<-hq];exact Ip K x n v (h.go (Keep.below hv)) hd)
 have HQ:=ZQ hq;have hk3:x.k=3:=by rw[h.k];exact h3
 have hvn:=h.v.2.1;unfold EEPost;rw[hq];have H3:=ZQ h3;clear h hq hd h3;go_enter func59,ntmps59;go_upto_region 1 with fail;refine gen_w (p:=λv=>Code.wp _ _ _ _ v) (q:=λv=>NBx w.heap.size v x/\Below w.heap.size w v) ⟨B,HB.out⟩ ?_;clear B HB;rintro v⟨B,hb⟩;have HB:=ZQ hb;have HX:=ZQ B;clear hb B;go_wp2_with (first|refine CC rfl _ rfl w.heap.size rfl x HX.out ?_);refine(HR1.out v HB.out).mono ?_;rintro e w1⟨rfl,hb1⟩;have HX1:=ZQ (HX.out.go hb1);have HB1:=ZQ (below_go HB.out hb1);clear hb1 HX HB;cases q with
 |false=>
  go_wp2_with fail;go_ret2;exact⟨⟨none,0,0,rfl,⟨.inl ⟨rfl,rfl⟩,λ_=>⟨rfl,rfl⟩,rfl,λx hx=>by cases hx⟩,λg off h=>by cases h⟩,HB1.out⟩
 |true=>
  obtain⟨b1,b2,b3⟩:=Fu HH.out.okN HQ.out;have HM:=ZQ b1;have hks:=XS HQ.out H3.out;have HKS:=ZQ hks;have H16:=ZQ (show x.kn=16 from by rw[HH.out.m.1];exact hks);have HLT:=ZQ (show w.heap.size<w1.heap.size from(BV.1 HX1.out.row).1);clear b1 b2 b3 hks;go_upto_region 5 with fail;obtain⟨gI,hgI⟩:∃gI,w1.heap.size=gI:=⟨_,rfl⟩;refine gen_w (p:=λv=>Code.wp _ _ _ _ v) (q:=λv=>En w v x gI (.slice none 0 0)) ⟨by rw[<-hgI];exact Aj _ _,HX1.out.go (below_new _ _),below_go HB1.out (below_new _ _),by rw[<-hgI];exact HLT.out,by simp[hgI]⟩ ?_;intro v2 E2;rw[hgI];have c0:=E2.bx.c0;rw[hk3]at c0;have HE2:=ZQ E2;clear E2 HX1 HB1 HLT hgI;go_wp2_with fail
  go_loopw [6] (λs6 u=>∃(j:Nat)(it:Value),j<=16/\s6= .int .i64 j/\En w u x gI it/\So gI u it ((n.ks.take j).map refItemP)) (λs6 _=>16-(intOf s6).toNat)
  case atStart=>exact⟨0,_,by omega,rfl,HE2.out,Zk _ _⟩
  case round=>
   obtain⟨j,it,hj,rfl,hE,hSO⟩:=hrel;have HE:=ZQ hE;have HSO:=ZQ hSO;clear hE hSO HE2 c0;by_cases hlt:j<16
   ·have hji:(j:Int)<16:=(by omega);obtain⟨r,hr⟩:∃r,n.ks[j]?=some r:=⟨_,Ac (by rw[HKS.out];exact hlt)⟩;obtain⟨g,off,y,hka,_,hrg,hy⟩:=HH.out.ks j r hr;have HKA:=ZQ hka;have HRG:=ZQ hrg;have HL:=ZQ hy.len;have HY:=ZQ hy;have HR:=ZQ hr;clear hrg hy hr hka;go_upto_region 9 with fail;rename_i KK hkk;refine BZ (S:=λv'=>NBx w.heap.size v' x/\Below w.heap.size w v') (by kernel_rfl) ⟨⟨HE.out.bx.row,HE.out.bx.l⟩,HE.out.bel.drew⟩ (λhS=>?_);have hE0:=HE.out.drew;refine Bm 0 23 (.pointer (some ⟨gI,2,none⟩)) rfl rfl (by kernel_rfl) (by kernel_rfl) (by kernel_rfl) (λ_ _ _ h=>h) (by kernel_rfl) (λv _=>by kernel_rfl) hS<|Bm 2 25 (.pointer (some ⟨w.heap.size,37,none⟩)) rfl rfl (by kernel_rfl) (by kernel_rfl) (by kernel_rfl) (λ_ _ _ h=>h) (by kernel_rfl) (λv _=>by kernel_rfl) hS<|Bm 3 26 (.slice (some ⟨g,off,none⟩) 16 x.kc) rfl rfl (by kernel_rfl) (by kernel_rfl) (by kernel_rfl) (λ_ _ _ h=>h) (by kernel_rfl) (λv' hv=>JM rfl (by kernel_rfl) (by rw[<-HKA.out,<-H16.out];exact hv.1.c37)) hS<|Bm 4 27 (.int .i64 j) rfl rfl (by kernel_rfl) (by kernel_rfl) (by kernel_rfl) (λ_ _ _ h=>h) (by kernel_rfl) (λv _=>by kernel_rfl) hS<|Bm 5 28 (.pointer (some ⟨g,off+j*34,none⟩)) rfl rfl (by kernel_rfl) (by kernel_rfl) (by kernel_rfl) (λ_ _ _ h=>h) (by kernel_rfl) (λv' _=>Ua (m:=16) (c:=x.kc) rfl (by kernel_rfl) (by kernel_rfl) hlt) hS<|Bm 6 29 (.agg y.cells.toArray) rfl rfl (by kernel_rfl) (by kernel_rfl) (by kernel_rfl) (λ_ _ _ h=>h) (by kernel_rfl) (λv' hv=>G9 rfl (by kernel_rfl) HL.out (EV HRG.out (λhl=>hv.2.block g hl))) hS<|AF (rs:=[1,7]) (by kernel_rfl) (by simp) ?_;refine CE 1 24 it rfl rfl (by kernel_rfl) (Dc rfl (by kernel_rfl) hE0.c2) hS ?_ ?_
    ·refine AF (rs:=[7]) (by kernel_rfl) (by simp) ?_;refine E3 7 30 rfl rfl (by kernel_rfl) 86 #[.agg y.cells.toArray] (by kernel_rfl) (R:=λval w'=>Below wr.drew.heap.size wr.drew w'/\∃z:V,val= .agg #[.bool z.l, .slice z.ba z.bn z.bc, .slice z.ia z.m z.ic]/\LiesP (λb=>wr.drew.heap.size<=b) w' (refItemP r) z) ((IC K y r wr.drew (HY.out.go (Keep.below hS.2))).mono (λe w' h=>Eg h (Aa _))) (λval w' h=>⟨hS.1.go h.1,below_go hS.2 h.1⟩) ?_ AB;rintro val u1⟨hb1,z,rfl,hz⟩;have hS1:NBx w.heap.size u1 x/\Below w.heap.size w u1:=⟨hS.1.go hb1,below_go hS.2 hb1⟩;have hE1:=hE0.all hb1;obtain⟨v',w3,hrun,hso3,hb3⟩:=Wf hE0.sz (HSO.out.all (Ak _ _).drew) hb1 hz (by rw[AZ,Am];omega) 107;have hE2:En w (u1.alloc (.cells #[.bool z.l, .slice z.ba z.bn z.bc, .slice z.ia z.m z.ic] 109)) x gI it:=hE1.all (below_new _ _);have hE3:=hE0.go hb3;have hE4:=hE3.put v';have hSO4:=hso3.put v';refine AF (rs:=[8]) (by kernel_rfl) (by simp) ?_;refine CE 8 31 (.slice (some ⟨u1.heap.size,0,none⟩) 1 1) rfl rfl (by kernel_rfl) (FW rfl z (by kernel_rfl)) ⟨hE2.bx,hE2.bel⟩ ?_ AB;refine AF (rs:=[9]) (by kernel_rfl) (by simp) ?_;refine CE 9 32 v' rfl rfl (by kernel_rfl) (IF rfl it (.slice (some ⟨u1.heap.size,0,none⟩) 1 1) (by kernel_rfl) (by kernel_rfl) hrun) ⟨hE3.bx,hE3.bel⟩ ?_ AB;refine Bm 10 33 (.pointer (some ⟨gI,2,none⟩)) rfl rfl (by kernel_rfl) (by kernel_rfl) (by kernel_rfl) (λ_ _ _ h=>h) (by kernel_rfl) (λv _=>by kernel_rfl) ⟨hE3.bx,hE3.bel⟩<|AF (rs:=[11]) (by kernel_rfl) (by simp) ?_;refine DO 11 rfl rfl (by kernel_rfl) (FX rfl gI v' it hso3.one (by kernel_rfl) (by kernel_rfl) hE3.c2 hE3.fz) ⟨hE4.bx,hE4.bel⟩ ?_ AB;refine Ck (by kernel_rfl) ?_ _;refine hkk _ _ ?_;have HE4:=ZQ hE4;have HSO4:=ZQ (show So gI (w3.setCell ⟨gI,2,none⟩ v') v' ((n.ks.take (j+1)).map refItemP)from by rw[DV HR.out,BB];exact hSO4);clear hE4 hSO4 hE3 hE2 hE1 hE0 hS hS1 hso3 hb3 hrun hz hb1 hkk
     go_frame
     go_wp2_with fail;exact⟨⟨j+1,v',by omega,by simp,HE4.out,HSO4.out⟩,by simp[intOf];omega⟩
    refine E3 7 30 rfl rfl (by kernel_rfl) 86 #[.agg y.cells.toArray] (by kernel_rfl) (R:=λval w'=>Below wr.drew.heap.size wr.drew w'/\∃z:V,val= .agg #[.bool z.l, .slice z.ba z.bn z.bc, .slice z.ia z.m z.ic]/\LiesP (λb=>wr.drew.heap.size<=b) w' (refItemP r) z) ((IC K y r wr.drew (HY.out.go (Keep.below hS.2))).mono (λe w' h=>Eg h (Aa _))) (λval w' h=>⟨hS.1.go h.1,below_go hS.2 h.1⟩) ?_ AB;rintro val u1⟨hb1,z,rfl,hz⟩;have hS1:NBx w.heap.size u1 x/\Below w.heap.size w u1:=⟨hS.1.go hb1,below_go hS.2 hb1⟩;have hE1:=hE0.all hb1;obtain⟨v',w3,hrun,hso3,hb3⟩:=Wf hE0.sz (HSO.out.all (Ak _ _).drew) hb1 hz (by rw[AZ,Am];omega) 107;have hE2:En w (u1.alloc (.cells #[.bool z.l, .slice z.ba z.bn z.bc, .slice z.ia z.m z.ic] 109)) x gI it:=hE1.all (below_new _ _);have hE3:=hE0.go hb3;have hE4:=hE3.put v';have hSO4:=hso3.put v';refine AF (rs:=[1,8]) (by kernel_rfl) (by simp) ?_;refine CE 1 24 it rfl rfl (by kernel_rfl) (Dc rfl (by kernel_rfl) hE1.c2) hS1 ?_ ?_
    ·refine AF (rs:=[8]) (by kernel_rfl) (by simp) ?_;refine CE 8 31 (.slice (some ⟨u1.heap.size,0,none⟩) 1 1) rfl rfl (by kernel_rfl) (FW rfl z (by kernel_rfl)) ⟨hE2.bx,hE2.bel⟩ ?_ AB;refine AF (rs:=[9]) (by kernel_rfl) (by simp) ?_;refine CE 9 32 v' rfl rfl (by kernel_rfl) (IF rfl it (.slice (some ⟨u1.heap.size,0,none⟩) 1 1) (by kernel_rfl) (by kernel_rfl) hrun) ⟨hE3.bx,hE3.bel⟩ ?_ AB;refine Bm 10 33 (.pointer (some ⟨gI,2,none⟩)) rfl rfl (by kernel_rfl) (by kernel_rfl) (by kernel_rfl) (λ_ _ _ h=>h) (by kernel_rfl) (λv _=>by kernel_rfl) ⟨hE3.bx,hE3.bel⟩<|AF (rs:=[11]) (by kernel_rfl) (by simp) ?_;refine DO 11 rfl rfl (by kernel_rfl) (FX rfl gI v' it hso3.one (by kernel_rfl) (by kernel_rfl) hE3.c2 hE3.fz) ⟨hE4.bx,hE4.bel⟩ ?_ AB;refine Ck (by kernel_rfl) ?_ _;refine hkk _ _ ?_;have HE4:=ZQ hE4;have HSO4:=ZQ (show So gI (w3.setCell ⟨gI,2,none⟩ v') v' ((n.ks.take (j+1)).map refItemP)from by rw[DV HR.out,BB];exact hSO4);clear hE4 hSO4 hE3 hE2 hE1 hE0 hS hS1 hso3 hb3 hrun hz hb1 hkk
     go_frame
     go_wp2_with fail;exact⟨⟨j+1,v',by omega,by simp,HE4.out,HSO4.out⟩,by simp[intOf];omega⟩
    refine CE 8 31 (.slice (some ⟨u1.heap.size,0,none⟩) 1 1) rfl rfl (by kernel_rfl) (FW rfl z (by kernel_rfl)) ⟨hE2.bx,hE2.bel⟩ ?_ AB;refine AF (rs:=[1]) (by kernel_rfl) (by simp) ?_;refine CE 1 24 it rfl rfl (by kernel_rfl) (Dc rfl (by kernel_rfl) hE2.c2) ⟨hE2.bx,hE2.bel⟩ ?_ AB;refine AF (rs:=[9]) (by kernel_rfl) (by simp) ?_;refine CE 9 32 v' rfl rfl (by kernel_rfl) (IF rfl it (.slice (some ⟨u1.heap.size,0,none⟩) 1 1) (by kernel_rfl) (by kernel_rfl) hrun) ⟨hE3.bx,hE3.bel⟩ ?_ AB;refine Bm 10 33 (.pointer (some ⟨gI,2,none⟩)) rfl rfl (by kernel_rfl) (by kernel_rfl) (by kernel_rfl) (λ_ _ _ h=>h) (by kernel_rfl) (λv _=>by kernel_rfl) ⟨hE3.bx,hE3.bel⟩<|AF (rs:=[11]) (by kernel_rfl) (by simp) ?_;refine DO 11 rfl rfl (by kernel_rfl) (FX rfl gI v' it hso3.one (by kernel_rfl) (by kernel_rfl) hE3.c2 hE3.fz) ⟨hE4.bx,hE4.bel⟩ ?_ AB;refine Ck (by kernel_rfl) ?_ _;refine hkk _ _ ?_;have HE4:=ZQ hE4;have HSO4:=ZQ (show So gI (w3.setCell ⟨gI,2,none⟩ v') v' ((n.ks.take (j+1)).map refItemP)from by rw[DV HR.out,BB];exact hSO4);clear hE4 hSO4 hE3 hE2 hE1 hE0 hS hS1 hso3 hb3 hrun hz hb1 hkk
    go_frame
    go_wp2_with fail;exact⟨⟨j+1,v',by omega,by simp,HE4.out,HSO4.out⟩,by simp[intOf];omega⟩
   ·have hji:¬(j:Int)<16:=(by omega);have hso:=HSO.out;rw[A8 (by rw[HKS.out];omega)]at hso;have d2:=HE.out.c2;have e2:=HE.out.bx.c2;have ef:=HE.out.fz;obtain⟨v',w3,hrun,hb3,hfull⟩:=XN (t:= .mk false n.v []) (y:=⟨false,x.va,x.vn,x.vc,none,0,0⟩) HE.out hso (Ak _ _) (lies_eq.2 ⟨rfl,HH.out.v.1,rfl,Aa _,AD _,⟨HH.out.v.2.1,AD _⟩,DD⟩) (by rw[AZ,HKS.out];omega) 107;have hE3:=HE.out.go hb3;have f2:=hE3.c2;have ff:=hE3.fz;have HE4:=ZQ (hE3.put v');obtain⟨ia,m,ic,hv',hen⟩:=Is (n:=n) hfull (by rw[Ab,AZ,HKS.out];simp) (by unfold itemP;rw[Ai H3.out]) HM.out;subst hv';have HRUN:=ZQ hrun;have HEN:=ZQ hen;clear hso hrun hb3 hfull hE3 hen;go_upto_region 16 with(first|refine E6 rfl _ _ rfl _ _ rfl rfl HRUN.out ?_);generalize w3.setCell ⟨gI,2,none⟩ (.slice ia m ic)=u4 at HE4 HEN⊢;have k0:=HE4.out.c0;have k1:=HE4.out.c1;have k2:=HE4.out.c2;clear d2 e2 ef f2 ff;go_wp2_with fail;refine HEN.out.mono ?_;rintro e w5⟨⟨a,m5,c5,rfl,hag,hnw⟩,hb5⟩;have HAG:=ZQ hag;have HNW:=ZQ (hnw.mono HE4.out.bel.size);have HB5:=ZQ (below_go HE4.out.bel hb5);clear hag hb5 hnw;go_wp2_with fail;go_ret2;exact⟨⟨a,m5,c5,rfl,HAG.out,HNW.out⟩,HB5.out⟩
end Go.Proofs.YtefhepcplempkaaGreat
