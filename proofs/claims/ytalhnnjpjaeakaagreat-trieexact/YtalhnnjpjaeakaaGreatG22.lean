/- The document's Decode. -/
import Derived.Test.YtalhnnjpjaeakaaGreatAK
import Derived.Test.YtalhnnjpjaeakaaGreatG21
import Derived.Test.YtalhnnjpjaeakaaGreatG18
import Derived.Test.YtalhnnjpjaeakaaGreatG01
set_option linter.unusedVariables false
set_option maxRecDepth 100000
set_option maxHeartbeats 16000000
open Go.Proofs.Tryz Go.RowKit
namespace Go.Proofs.YtalhnnjpjaeakaaGreat
open Ni (unpP)
variable {w1 v' : World} {y : V} {x : NV}
structure De(w1 v:World)(y:V)(x:NV):Prop where
 ib:B1 w1.heap.size v y
 nb:NBx (w1.heap.size+1) v x
 bel:Below w1.heap.size w1 v
 sz:w1.heap.size+2<=v.heap.size
theorem De.go{v:World}(h:De w1 v y x)(hb:Below v.heap.size v v'):De w1 v' y x:=⟨h.ib.go hb,h.nb.go hb,below_go h.bel hb,Al h.sz hb.size⟩
theorem De.setRow{v:World}(h:De w1 v y x)(x':NV)(hl:x'.c.d.length=32):De w1 (v.setRow (w1.heap.size+1) x'.cells.toArray) y x':=
 ⟨DO h.ib (by omega),⟨AA _ _ _ _ _ _ h.nb.row,hl⟩,Below.setRow h.bel (by omega) _,by simpa using h.sz⟩
theorem De.drew{v:World}(h:De w1 v y x):De w1 v.drew y x:=h.go (Ak _ _).drew
theorem De.above{v:World}(h:De w1 v y x)(hb:Below (w1.heap.size+2) v v'):De w1 v' y x:=
 ⟨⟨(Aq (w:=v) (hb.block w1.heap.size (by omega))).trans h.ib.c0,(Aq (w:=v) (hb.block w1.heap.size (by omega))).trans h.ib.c1,(Aq (w:=v) (hb.block w1.heap.size (by omega))).trans h.ib.c2⟩,⟨(hb.block _ (by omega)).trans h.nb.row,h.nb.l⟩,
  h.bel.trans (hb.mono (by omega)),Al h.sz hb.size⟩
theorem Rz(hl:x.c.d.length=32)(ka:Option Addr)(kn kc:Nat):x.cells.toArray.setIfInBounds 37 (.slice ka kn kc)=(NV.cells {x with ka:=ka,kn:=kn,kc:=kc}).toArray:=by
 rw[D9];congr 1;rw[NV.cells,NV.cells,show(37:Nat)=34+1+1+1 from rfl,EH,EH,EH,DD _ _ (by rw[RV.len hl];omega),RV.len hl];rfl
theorem De.put{v:World}(h:De w1 v y x)(ka:Option Addr)(kn kc:Nat):De w1 (v.setCell ⟨w1.heap.size+1,37,none⟩ (.slice ka kn kc)) y {x with ka:=ka,kn:=kn,kc:=kc}:=by
 have ho:∀k,k≠w1.heap.size+1->(v.setCell ⟨w1.heap.size+1,37,none⟩ (.slice ka kn kc)).heap[k]?=v.heap[k]?:=λk hk=>A8 _ _ _ _ hk;refine⟨⟨(Aq (w:=v) (ho w1.heap.size (by omega))).trans h.ib.c0,(Aq (w:=v) (ho w1.heap.size (by omega))).trans h.ib.c1,(Aq (w:=v) (ho w1.heap.size (by omega))).trans h.ib.c2⟩,⟨?_,h.nb.l⟩,h.bel.setCell (by show w1.heap.size<=w1.heap.size+1;omega) _,by simpa using h.sz⟩;rw[AO v (w1.heap.size+1) 37 _ 92 (.slice ka kn kc) h.nb.row,Rz h.nb.l]
theorem R8:(λ(va:Option Addr)(vn vc:Nat)=>prog.built 92 [(0, .int .i64 3),(2, .slice va vn vc)])=λva vn vc=>some (NV.cells ⟨3,none,0,0,va,vn,vc,rz,none,0,0⟩).toArray:=by kernel_rfl
theorem NI(va:Option Addr)(vn vc:Nat):prog.built 92 [(0, .int .i64 3),(2, .slice va vn vc)]=some (NV.cells ⟨3,none,0,0,va,vn,vc,rz,none,0,0⟩).toArray:=AC (AC (AC R8 va) vn) vc
theorem Ta{y:NV}(hx:x.c.d.length=32)(hy:y.c.d.length=32):x.cells.toArray.size=y.cells.toArray.size:=by rw[Bb,Bb,NV.len hx,NV.len hy]
section
variable {a : Act} {w : World}
theorem IR{x y:Operand}{o:Oper}(ho:o.op= .store 90 x y)(g:Nat)(ia:Option Addr)(m ic:Nat)(old:Value)(hx:a.eval x= .pointer (some ⟨g,37,none⟩))(hy:a.eval y= .slice ia m ic)(hc:w.cell? ⟨g,37,none⟩=some old)(hf:∀o,w.frozen? ⟨g,o,none⟩=false):
 (execOp a.eval o).run prog w= .ok .skip (w.setCell ⟨g,37,none⟩ (.slice ia m ic)):=by
 unfold execOp;rw[ho];simp only[hx,hy];go_simp
end
theorem NJ{its:List T}{j:Nat}{t:T}(h:its[j]?=some t):(its.take (j+1)).map drefP=(its.take j).map drefP++[drefP t]:=by
 rw[DK h,BA];rfl
theorem GI{w:World}{r:PR}{e:Ending}{w':World}(h:DRPost w r e w'):∃v,e= .returned v/\(Below w.heap.size w w'/\∃y:RV,v= .agg y.cells.toArray/\RefAt (λb=>w.heap.size<=b) w' y r):=by
 obtain⟨⟨y,e1,hy⟩,hb⟩:=h;exact⟨_,e1,hb,y,rfl,hy.go λg hg _=>⟨rfl,E4 hg⟩⟩
theorem ON(b:List Int)(hr:∀i,i.length<b.length->DDSaid i):DDSaid b:=by
 intro a n c w hag hn;have hbB:isB b:=hag.b;have HREC:=Xba hr;have HAG:=Xba hag;have HBB:=Xba hbB;obtain⟨res,hres⟩:∃res,ND b=res:=⟨_,rfl⟩;rw[hres];have HRES:=Xba hres;have HDD0:=Xba (WE w);clear hag hr hres hbB;go_enter func142,ntmps142;go_upto_region 1 with fail;refine gen_w (p:=λv=>Code.wp _ _ _ _ v) (q:=λv=>Dd w v) HDD0.out ?_;clear HDD0;intro v D0;have HD0:=Xba D0;have HCD:=Xba (KH a n c b v (HAG.out.at D0.bel) hn);clear D0;go_wp2_with fail;refine HCD.out.mono ?_;intro e w1 hp;obtain⟨hb1,hp⟩:=hp;have HD1:=Xba (HD0.out.go hb1);have HV0:=Xba HD0.out.sz;cases hq:decP b with
 |bad er=>
  rw[hq]at hp;have hr:=HRES.out;rw[Xai HBB.out hq]at hr;subst hr;obtain⟨rfl,her⟩:=hp;have hee:((er:Int) !=0)=true:=by rw[BL];omega
  clear hb1 hq her;go_upto_region 2 with fail;refine gen_w (p:=λv=>Code.wp _ _ _ _ v) (q:=λv=>Dd w v) (HD1.out.go (below_new w1 _)) ?_;intro v2 D2;have HD2:=Xba D2;clear D2;go_upto_region 3 with fail;go_wp2_with (first|refine A4 rfl 92 _ _ rfl _ nz.cells.toArray rfl rfl 92 _ HD2.out.row (CL rfl) (Cv rfl) (Am (NV.one _)) ?_);refine Ap (BP results142 _ _ w.heap.size nz rfl rfl (AA _ _ _ _ _ _ HD2.out.row)) rfl ?_;exact⟨Below.setRow HD2.out.bel (Aa _) _,rfl⟩
 |ok t=>
  rw[hq]at hp;obtain⟨y,rfl,hy⟩:=hp;have HLY:=Xba (show LiesP (λb=>w.heap.size+1<=b) w1 t y from Bz (λb hb hlt=>⟨rfl,by have:=HV0.out;omega⟩) _ _ hy);have HQ:=Xba hq;have HSM:=Xba (Nz HBB.out hq);clear hb1 hq hy HV0 HD0 HCD;go_upto_region 2 with fail;refine gen_w (p:=λv=>Code.wp _ _ _ _ v) (q:=λv=>B1 w1.heap.size v y/\Below w1.heap.size w1 v/\v.heap.size=w1.heap.size+1) ⟨E5 w1 y,below_new w1 _,by simp⟩ ?_;rintro v2⟨B2,hb2,hs2⟩;have HB2:=Xba B2;have HBL:=Xba hb2;have HS2:=Xba hs2;clear B2 hb2 hs2;obtain⟨its,hits⟩:∃its,t.its=its:=⟨_,rfl⟩;have hpar:y.m=its.length/\y.m<=y.ic/\y.ic<=maxLen/\LiesPAll (λb=>w.heap.size+1<=b) w1 its y.ia 0:=by
   obtain⟨l,bs,its'⟩:=t;have e:its'=its:=hits;subst e;obtain⟨⟨hl,-,hm,hmc,hcm,-⟩,hall⟩:=liesP_eq.1 HLY.out;exact⟨hm,hmc,hcm,hall⟩
  obtain⟨hm,hmc,hcm,hall⟩:=hpar;unfold maxLen at hcm;rw[hits]at HSM;have HITS:=Xba hits;have HM:=Xba hm;have HALL:=Xba hall;clear hits hm hall;by_cases h2:y.m=2
  ·have hl2:its.length=2:=(by rw[<-HM.out,h2]);have c2:=HB2.out.c2;rw[h2]at c2;obtain⟨g,off,y0,A0⟩:=DH HALL.out 0 (its.getD 0 t0) (by rw[List.getD,Ac (by omega)];rfl);obtain⟨g1,off1,y1,A1⟩:=DH HALL.out 1 (its.getD 1 t0) (by rw[List.getD,Ac (by omega)];rfl);have ha:=A1.ha;rw[A0.ha]at ha;cases ha;have HX0:=Xba (HSM.out _ (FC (l:=its) (i:=0) (by omega)));rw[A0.ha]at c2;have HIA:=Xba A0.ha;have HA0:=Xba A0;have HA1:=Xba A1;have HND:=Xba (show ddNode t=(if(unpP (its.getD 0 t0).bs).2.1=true then⟨1,(unpP (its.getD 0 t0).bs).1,(its.getD 1 t0).bs,r0,[]⟩else⟨2,(unpP (its.getD 0 t0).bs).1,[],drefP (its.getD 1 t0),[]⟩)from by unfold ddNode;rw[HITS.out,Af hl2]);generalize its.getD 0 t0=tt0 at HA0 HX0 HND;generalize its.getD 1 t0=tt1 at HA1 HND;have H2:=Xba h2;clear hl2 A0 A1 h2 hmc;go_upto_region 4 with fail;rename_i KK hkk;refine CZ<|Bu 33 (.pointer (some ⟨w1.heap.size,2,none⟩)) rfl (by kernel_rfl) (by kernel_rfl)<|Bu 34 (.slice (some ⟨g,off,none⟩) 2 y.ic) rfl (by kernel_rfl) (CT rfl (by kernel_rfl) c2)<|Bu 35 (.pointer (some ⟨w1.heap.size,2,none⟩)) rfl (by kernel_rfl) (by kernel_rfl)<|Bu 36 (.slice (some ⟨g,off,none⟩) 2 y.ic) rfl (by kernel_rfl) (CT rfl (by kernel_rfl) c2)<|Bu 37 (.int .i64 2) rfl (by kernel_rfl) (by kernel_rfl)<|Bu 38 (.int .i64 1) rfl (by kernel_rfl) (by kernel_rfl)<|Bu 39 (.pointer (some ⟨g,off+(0+1)*3,none⟩)) rfl (by kernel_rfl) (ES (j:=0+1) (m:=2) (c:=y.ic) rfl (by kernel_rfl) (by kernel_rfl) (by omega))<|Bu 40 (.pointer (some ⟨g,off+(0+1)*3+1,none⟩)) rfl (by kernel_rfl) (by kernel_rfl)<|Bu 41 (.slice y1.ba y1.bn y1.bc) rfl (by kernel_rfl) (FO rfl (by kernel_rfl) (AN HBL.out HA1.out.c1))<|Bu 42 (.agg (NV.cells ⟨3,none,0,0,y1.ba,y1.bn,y1.bc,rz,none,0,0⟩).toArray) rfl (by kernel_rfl) (Ea 92 _ rfl [(0, .int .i64 3),(2, .slice y1.ba y1.bn y1.bc)] (by kernel_rfl) _ (NI _ _ _))<|Oz 6 (.pointer (some ⟨w1.heap.size+1,0,none⟩)) rfl (by kernel_rfl) ((Ir rfl).trans (by rw[HS2.out])) ?_;refine Fy rfl (by kernel_rfl) (D3 92 _ _ rfl (w1.heap.size+1) (NV.cells ⟨3,none,0,0,y1.ba,y1.bn,y1.bc,rz,none,0,0⟩).toArray (by kernel_rfl) (by kernel_rfl) 92 nz.cells.toArray (by rw[<-HS2.out];exact Ai _ _) (CL rfl) (Cv rfl) (Am (NV.one _)))<|hkk _ _ ?_
   go_frame
   refine gen_w (p:=λv=>Code.wp _ _ _ _ v) (q:=λv=>De w1 v y ⟨3,none,0,0,y1.ba,y1.bn,y1.bc,rz,none,0,0⟩) (by
    have e:=De.setRow (w1:=w1) (v:=v2.alloc (.cells nz.cells.toArray 92)) (y:=y) (x:=nz) ⟨HB2.out.alloc _,⟨by rw[<-HS2.out];exact Ai _ _,rfl⟩,below_go HBL.out (below_new _ _),by simp[HS2.out]⟩ ⟨3,none,0,0,y1.ba,y1.bn,y1.bc,rz,none,0,0⟩ rfl;exact e) ?_
   intro v4 D4;have HD4:=Xba D4;clear D4 hkk c2;have c2:=HD4.out.ib.c2;rw[HIA.out,H2.out]at c2;have hag0:Ag w1 y0.ba y0.bn y0.bc tt0.bs:=(by obtain⟨l,bs,its'⟩:=tt0;exact(lies_eq.1 (CX _ _ HA0.out.li)).2.1);have HU:=Xba (Ni.runpack_any y0.ba y0.bn y0.bc tt0.bs v4 (hag0.at HD4.out.bel) (by have:=hag0.l;have:=HX0.out;omega));have HPL:=Xba (Ni.unp_le tt0.bs);have hy0n:tt0.bs.length=y0.bn:=hag0.l;have HY0N:=Xba hy0n;clear hag0 hy0n;obtain⟨pp,hpp⟩:∃pp,(unpP tt0.bs).1=pp:=⟨_,rfl⟩;obtain⟨lf,hlf⟩:∃lf,(unpP tt0.bs).2.1=lf:=⟨_,rfl⟩;obtain⟨er,her⟩:∃er,(unpP tt0.bs).2.2=er:=⟨_,rfl⟩;rw[hpp,hlf,her]at HU;rw[hpp]at HPL;rw[hpp,hlf]at HND;clear hpp hlf her;go_upto_region 6 with fail;rename_i KK hkk;refine CZ<|Bu 48 (.pointer (some ⟨w1.heap.size,2,none⟩)) rfl (by kernel_rfl) (by kernel_rfl)<|Bu 49 (.slice (some ⟨g,off,none⟩) 2 y.ic) rfl (by kernel_rfl) (CT rfl (by kernel_rfl) c2)<|Bu 50 (.pointer (some ⟨g,off+(0+0)*3,none⟩)) rfl (by kernel_rfl) (ES (j:=0+0) (m:=2) (c:=y.ic) rfl (by kernel_rfl) (by kernel_rfl) (by omega))<|Bu 51 (.pointer (some ⟨g,off+(0+0)*3+1,none⟩)) rfl (by kernel_rfl) (by kernel_rfl)<|Bu 52 (.slice y0.ba y0.bn y0.bc) rfl (by kernel_rfl) (FO rfl (by kernel_rfl) (AN HD4.out.bel HA0.out.c1))<|KX 53 rfl (by kernel_rfl) 148 #[.slice y0.ba y0.bn y0.bc] (by kernel_rfl) (R:=λval w'=>Below v4.heap.size v4 w'/\∃a' m c',val= .tuple #[.slice a' m c', .bool lf, .int .i64 (er:Nat)]/\Ag w' a' m c' pp/\(∀g off,a'=some ⟨g,off,none⟩->0<m->v4.heap.size<=g)) (HU.out.mono (by rintro e w'⟨⟨a',m,c',rfl,h1,h2⟩,h3⟩;exact⟨_,rfl,h3,a',m,c',rfl,h1,h2⟩)) ?_;rintro val w6⟨hb6,a',m,c',rfl,hag6,hnw6⟩;refine Bu 47 (.tuple #[.slice a' m c', .bool lf, .int .i64 (er:Nat)]) rfl (by kernel_rfl) (by kernel_rfl)<|Bu 54 (.slice a' m c') rfl (by kernel_rfl) (by kernel_rfl)<|Bu 55 (.bool lf) rfl (by kernel_rfl) (by kernel_rfl)<|Bu 56 (.int .i64 (er:Nat)) rfl (by kernel_rfl) (by kernel_rfl)<|Bu 7 (.slice a' m c') rfl (by kernel_rfl) (by kernel_rfl)<|Bu 8 (.bool lf) rfl (by kernel_rfl) (by kernel_rfl)<|Bu 9 (.int .i64 (er:Nat)) rfl (by kernel_rfl) (by kernel_rfl)<|hkk _ _ ?_;have HD6:=Xba (HD4.out.go hb6);have HPA:=Xba (show AgK (λg=>w1.heap.size+2<=g) w6 a' m c' pp from⟨hag6,by have:=hag6.l;have:=HPL.out;have:=HX0.out;omega,λg off e h0=>by have:=hnw6 g off e h0;have:=HD4.out.sz;omega⟩);clear hkk hb6 hag6 hnw6 c2 HU HD4;have c2:=HD6.out.ib.c2;rw[HIA.out,H2.out]at c2;have HRF:=Xba (Mt tt1 y1 w6 (Ci HD6.out.bel _ _ (CX _ _ HA1.out.li)))
   go_frame
   go_upto_region 7 with fail;rename_i KK hkk;refine CZ<|Bu 57 (.slice a' m c') rfl (by kernel_rfl) (by kernel_rfl)<|Bu 58 (.pointer (some ⟨w1.heap.size,2,none⟩)) rfl (by kernel_rfl) (by kernel_rfl)<|Bu 59 (.slice (some ⟨g,off,none⟩) 2 y.ic) rfl (by kernel_rfl) (CT rfl (by kernel_rfl) c2)<|Bu 60 (.pointer (some ⟨g,off+(0+1)*3,none⟩)) rfl (by kernel_rfl) (ES (j:=0+1) (m:=2) (c:=y.ic) rfl (by kernel_rfl) (by kernel_rfl) (by omega))<|Bu 61 (.agg #[.bool y1.l, .slice y1.ba y1.bn y1.bc, .slice y1.ia y1.m y1.ic]) rfl (by kernel_rfl) (GS rfl (by kernel_rfl) (AN HD6.out.bel HA1.out.c0) (AN HD6.out.bel HA1.out.c1) (AN HD6.out.bel HA1.out.c2))<|KX 62 rfl (by kernel_rfl) 149 #[.agg #[.bool y1.l, .slice y1.ba y1.bn y1.bc, .slice y1.ia y1.m y1.ic]] (by kernel_rfl) (R:=λval w'=>Below w6.heap.size w6 w'/\∃z:RV,val= .agg z.cells.toArray/\RefAt (λb=>w6.heap.size<=b) w' z (drefP tt1)) (HRF.out.mono (λe w' h=>GI h)) ?_;rintro val w7⟨hb7,z,rfl,hz⟩;have HZL:=Xba hz.len;refine Bu 63 (.agg (NV.cells ⟨2,a',m,c',none,0,0,z,none,0,0⟩).toArray) rfl (by kernel_rfl) (Ea 92 _ rfl [(0, .int .i64 2),(1, .slice a' m c'),(3, .agg z.cells.toArray)] (by kernel_rfl) _ (GU _ _ _ _ HZL.out))<|Fy rfl (by kernel_rfl) (D3 92 _ _ rfl (w1.heap.size+1) (NV.cells ⟨2,a',m,c',none,0,0,z,none,0,0⟩).toArray (by kernel_rfl) (by kernel_rfl) 92 _ (HD6.out.go hb7).nb.row (CL HZL.out) (Ta (HD6.out.go hb7).nb.l HZL.out) (Am (NV.one _)))<|hkk _ _ ?_;have HD7:=Xba ((HD6.out.go hb7).setRow ⟨2,a',m,c',none,0,0,z,none,0,0⟩ hz.len);have hkeep:Keep (λg=>w1.heap.size+2<=g) (λg=>w1.heap.size+2<=g) w7 (w7.setRow (w1.heap.size+1) (NV.cells ⟨2,a',m,c',none,0,0,z,none,0,0⟩).toArray):=λk hK hk=>⟨AX _ _ _ _ (by omega),hK⟩;have HP7:=Xba ((HPA.out.go (Keep.below hb7)).go hkeep);have HZ7:=Xba (RefAt.go hkeep (hz.go (λk hK hk=>⟨rfl,by have:=HD6.out.sz;have:w6.heap.size<=k:=hK;omega⟩)));generalize w7.setRow (w1.heap.size+1) (NV.cells ⟨2,a',m,c',none,0,0,z,none,0,0⟩).toArray=vT at HD7 HP7 HZ7⊢;clear hkk hb7 hz hkeep c2 HRF HD6 HPA
   go_frame
   have HSW:=Xba HD1.out.sz;cases lf with
   |false=>
    have hnd:=HND.out;rw[Ad (by simp)]at hnd;obtain⟨nn,hnn⟩:∃nn:PN,nn=⟨2,pp,[],drefP tt1,[]⟩:=⟨_,rfl⟩;rw[<-hnn]at hnd;clear HND;have HND:=Xba hnd
    have HNA:=Xba (show NodeAt (λg=>w.heap.size<g) vT ⟨2,a',m,c',none,0,0,z,none,0,0⟩ nn from by
     subst hnn;have hs:=HSW.out;exact⟨rfl,HP7.out.go (λk hK hk=>⟨rfl,by omega⟩),Fz _ _,HZ7.out.go (λk hK hk=>⟨rfl,by omega⟩),⟨rfl,Ay _,Ay _,Ay _,λ_=>⟨rfl,rfl⟩⟩,Jz _ _ _⟩)
    have HDE:=HD7;clear hnd hnn HD7;go_upto_region 14 with fail;have HEN:=Xba (GH _ ⟨2,a',m,c',none,0,0,z,none,0,0⟩ nn vT HNA.out (λr hrr _=>HREC.out r.i (Ry HBB.out HQ.out (by rw[HITS.out,<-HM.out];first|exact .inl H2.out|exact .inr H17.out) r (by rw[HND.out];exact hrr))));have HOK:=Xba HNA.out.okN;have HXL:=Xba HNA.out.c.len;go_wp2_with (first|refine CG rfl _ rfl (w1.heap.size+1) rfl ⟨2,a',m,c',none,0,0,z,none,0,0⟩ HDE.out.nb ?_);refine HEN.out.mono ?_;rintro e w5⟨⟨a5,m5,c5,rfl,hag5,-⟩,hb5⟩;have HE5:=Xba (HDE.out.go hb5);have HD5:=Xba (HD1.out.go HE5.out.bel);have HN5:=Xba (HNA.out.go (Keep.below hb5));have hr:=HRES.out;rw[Rx HBB.out HQ.out (by rw[HND.out];exact HOK.out),HND.out]at hr;obtain⟨q,hqq⟩:∃q,NR nn=q:=⟨_,rfl⟩;rw[hqq]at hag5 hr⊢;have HQQ:=Xba hqq;clear hb5 hqq HEN;cases q with
    |false=>
     rw[Ad (by simp)]at hr;subst hr;rw[Ad (by simp)]at hag5⊢;clear hag5;go_upto_region 16 with fail;go_wp2_with (first|refine A4 rfl 92 _ _ rfl _ nz.cells.toArray rfl rfl 92 _ HD5.out.row (CL rfl) (Cv rfl) (Am (NV.one _)) ?_);refine Ap (BP results142 _ _ w.heap.size nz rfl rfl (AA _ _ _ _ _ _ HD5.out.row)) rfl ?_;exact⟨Below.setRow HD5.out.bel (Aa _) _,rfl⟩
    |true=>
     rw[Af rfl]at hag5⊢;have k1:=FJ hag5.i;have k2:=FJ (HAG.out.at HD5.out.bel).i;have HS:=Xba (Ni.str_beq hag5.b HBB.out);generalize strOfNums (NE nn)=s1 at k1 HS;generalize strOfNums b=s2 at k2 HS;clear hag5;by_cases heq:NE nn=b
     ·rw[Af ⟨rfl,heq⟩]at hr;subst hr;have hss:(!s1.toList==s2.toList)=false:=(by rw[HS.out,AT heq];rfl);clear heq;go_upto_region 17 with fail;go_wp2_with (first|refine CG rfl _ rfl (w1.heap.size+1) rfl ⟨2,a',m,c',none,0,0,z,none,0,0⟩ HE5.out.nb ?_|refine A4 rfl 92 _ _ rfl _ (NV.cells ⟨2,a',m,c',none,0,0,z,none,0,0⟩).toArray rfl rfl 92 _ HD5.out.row (CL HXL.out) (Cv HXL.out) (Am (NV.one _)) ?_);refine Ap (BP results142 _ _ w.heap.size ⟨2,a',m,c',none,0,0,z,none,0,0⟩ HXL.out rfl (AA _ _ _ _ _ _ HD5.out.row)) rfl ?_;exact⟨Below.setRow HD5.out.bel (Aa _) _,⟨2,a',m,c',none,0,0,z,none,0,0⟩,rfl,HN5.out.go λk hK hk=>⟨AX _ _ _ _ (by omega),E4 hK⟩⟩
     ·rw[Ad (λh=>heq h.2)]at hr;subst hr;have hss:(!s1.toList==s2.toList)=true:=(by rw[HS.out,AU heq];rfl);clear heq;go_upto_region 16 with fail;go_wp2_with (first|refine A4 rfl 92 _ _ rfl _ nz.cells.toArray rfl rfl 92 _ HD5.out.row (CL rfl) (Cv rfl) (Am (NV.one _)) ?_);refine Ap (BP results142 _ _ w.heap.size nz rfl rfl (AA _ _ _ _ _ _ HD5.out.row)) rfl ?_;exact⟨Below.setRow HD5.out.bel (Aa _) _,rfl⟩
   |true=>
    have hnd:=HND.out;rw[Af rfl]at hnd;obtain⟨nn,hnn⟩:∃nn:PN,nn=⟨1,pp,tt1.bs,r0,[]⟩:=⟨_,rfl⟩;rw[<-hnn]at hnd;clear HND;have HND:=Xba hnd;have c2:=HD7.out.ib.c2;rw[HIA.out,H2.out]at c2;go_upto_region 9 with fail;rename_i K2 hkk KK2;refine CZ<|Bu 65 (.slice a' m c') rfl (by kernel_rfl) (by kernel_rfl)<|Bu 66 (.pointer (some ⟨w1.heap.size,2,none⟩)) rfl (by kernel_rfl) (by kernel_rfl)<|Bu 67 (.slice (some ⟨g,off,none⟩) 2 y.ic) rfl (by kernel_rfl) (CT rfl (by kernel_rfl) c2)<|Bu 68 (.pointer (some ⟨g,off+(0+1)*3,none⟩)) rfl (by kernel_rfl) (ES (j:=0+1) (m:=2) (c:=y.ic) rfl (by kernel_rfl) (by kernel_rfl) (by omega))<|Bu 69 (.pointer (some ⟨g,off+(0+1)*3+1,none⟩)) rfl (by kernel_rfl) (by kernel_rfl)<|Bu 70 (.slice y1.ba y1.bn y1.bc) rfl (by kernel_rfl) (FO rfl (by kernel_rfl) (AN HD7.out.bel HA1.out.c1))<|Bu 71 (.agg (NV.cells ⟨1,a',m,c',y1.ba,y1.bn,y1.bc,rz,none,0,0⟩).toArray) rfl (by kernel_rfl) (Ea 92 _ rfl [(0, .int .i64 1),(1, .slice a' m c'),(2, .slice y1.ba y1.bn y1.bc)] (by kernel_rfl) _ (Ju _ _ _ _ _ _))<|Fy rfl (by kernel_rfl) (D3 92 _ _ rfl (w1.heap.size+1) (NV.cells ⟨1,a',m,c',y1.ba,y1.bn,y1.bc,rz,none,0,0⟩).toArray (by kernel_rfl) (by kernel_rfl) 92 _ HD7.out.nb.row (CL rfl) (Ta HD7.out.nb.l rfl) (Am (NV.one _)))<|hkk _ _ ?_;have HDE:=Xba (HD7.out.setRow ⟨1,a',m,c',y1.ba,y1.bn,y1.bc,rz,none,0,0⟩ rfl);have hkeep:Keep (λg=>w1.heap.size+2<=g) (λg=>w.heap.size<g) vT (vT.setRow (w1.heap.size+1) (NV.cells ⟨1,a',m,c',y1.ba,y1.bn,y1.bc,rz,none,0,0⟩).toArray):=λk hK hk=>⟨AX _ _ _ _ (by omega),by have:=HSW.out;omega⟩;have hv1:AgK (OwnP (λb=>w.heap.size+1<=b) w1) w1 y1.ba y1.bn y1.bc tt1.bs:=by obtain⟨l,bs,its'⟩:=tt1;exact Io HA1.out.li
    have HNA:=Xba (show NodeAt (λg=>w.heap.size<g) (vT.setRow (w1.heap.size+1) (NV.cells ⟨1,a',m,c',y1.ba,y1.bn,y1.bc,rz,none,0,0⟩).toArray) ⟨1,a',m,c',y1.ba,y1.bn,y1.bc,rz,none,0,0⟩ nn from by
     subst hnn;exact⟨rfl,HP7.out.go hkeep,hv1.go (λk hK hk=>⟨HDE.out.bel.block k hk,by have:=hK.1;omega⟩),Fc _ _,⟨rfl,Ay _,Ay _,Ay _,λ_=>⟨rfl,rfl⟩⟩,Jz _ _ _⟩)
    generalize vT.setRow (w1.heap.size+1) (NV.cells ⟨1,a',m,c',y1.ba,y1.bn,y1.bc,rz,none,0,0⟩).toArray=vT at HDE HNA⊢;clear hnd hnn HD7 hkeep hv1 hkk c2 HP7 HZ7
    go_frame
    go_upto_region 14 with fail;have HEN:=Xba (GH _ ⟨1,a',m,c',y1.ba,y1.bn,y1.bc,rz,none,0,0⟩ nn vT HNA.out (λr hrr _=>HREC.out r.i (Ry HBB.out HQ.out (by rw[HITS.out,<-HM.out];first|exact .inl H2.out|exact .inr H17.out) r (by rw[HND.out];exact hrr))));have HOK:=Xba HNA.out.okN;have HXL:=Xba HNA.out.c.len;go_wp2_with (first|refine CG rfl _ rfl (w1.heap.size+1) rfl ⟨1,a',m,c',y1.ba,y1.bn,y1.bc,rz,none,0,0⟩ HDE.out.nb ?_);refine HEN.out.mono ?_;rintro e w5⟨⟨a5,m5,c5,rfl,hag5,-⟩,hb5⟩;have HE5:=Xba (HDE.out.go hb5);have HD5:=Xba (HD1.out.go HE5.out.bel);have HN5:=Xba (HNA.out.go (Keep.below hb5));have hr:=HRES.out;rw[Rx HBB.out HQ.out (by rw[HND.out];exact HOK.out),HND.out]at hr;obtain⟨q,hqq⟩:∃q,NR nn=q:=⟨_,rfl⟩;rw[hqq]at hag5 hr⊢;have HQQ:=Xba hqq;clear hb5 hqq HEN;cases q with
    |false=>
     rw[Ad (by simp)]at hr;subst hr;rw[Ad (by simp)]at hag5⊢;clear hag5;go_upto_region 16 with fail;go_wp2_with (first|refine A4 rfl 92 _ _ rfl _ nz.cells.toArray rfl rfl 92 _ HD5.out.row (CL rfl) (Cv rfl) (Am (NV.one _)) ?_);refine Ap (BP results142 _ _ w.heap.size nz rfl rfl (AA _ _ _ _ _ _ HD5.out.row)) rfl ?_;exact⟨Below.setRow HD5.out.bel (Aa _) _,rfl⟩
    |true=>
     rw[Af rfl]at hag5⊢;have k1:=FJ hag5.i;have k2:=FJ (HAG.out.at HD5.out.bel).i;have HS:=Xba (Ni.str_beq hag5.b HBB.out);generalize strOfNums (NE nn)=s1 at k1 HS;generalize strOfNums b=s2 at k2 HS;clear hag5;by_cases heq:NE nn=b
     ·rw[Af ⟨rfl,heq⟩]at hr;subst hr;have hss:(!s1.toList==s2.toList)=false:=(by rw[HS.out,AT heq];rfl);clear heq;go_upto_region 17 with fail;go_wp2_with (first|refine CG rfl _ rfl (w1.heap.size+1) rfl ⟨1,a',m,c',y1.ba,y1.bn,y1.bc,rz,none,0,0⟩ HE5.out.nb ?_|refine A4 rfl 92 _ _ rfl _ (NV.cells ⟨1,a',m,c',y1.ba,y1.bn,y1.bc,rz,none,0,0⟩).toArray rfl rfl 92 _ HD5.out.row (CL HXL.out) (Cv HXL.out) (Am (NV.one _)) ?_);refine Ap (BP results142 _ _ w.heap.size ⟨1,a',m,c',y1.ba,y1.bn,y1.bc,rz,none,0,0⟩ HXL.out rfl (AA _ _ _ _ _ _ HD5.out.row)) rfl ?_;exact⟨Below.setRow HD5.out.bel (Aa _) _,⟨1,a',m,c',y1.ba,y1.bn,y1.bc,rz,none,0,0⟩,rfl,HN5.out.go λk hK hk=>⟨AX _ _ _ _ (by omega),E4 hK⟩⟩
     ·rw[Ad (λh=>heq h.2)]at hr;subst hr;have hss:(!s1.toList==s2.toList)=true:=(by rw[HS.out,AU heq];rfl);clear heq;go_upto_region 16 with fail;go_wp2_with (first|refine A4 rfl 92 _ _ rfl _ nz.cells.toArray rfl rfl 92 _ HD5.out.row (CL rfl) (Cv rfl) (Am (NV.one _)) ?_);refine Ap (BP results142 _ _ w.heap.size nz rfl rfl (AA _ _ _ _ _ _ HD5.out.row)) rfl ?_;exact⟨Below.setRow HD5.out.bel (Aa _) _,rfl⟩
  ·by_cases h17:y.m=17
   ·have hl17:its.length=17:=(by rw[<-HM.out,h17]);have c2:=HB2.out.c2;rw[h17]at c2;obtain⟨g,off,y1,A1⟩:=DH HALL.out 16 (its.getD 16 t0) (by rw[List.getD,Ac (by omega)];rfl);rw[A1.ha]at c2;have HIA:=Xba A1.ha;have HA1:=Xba A1;have HND:=Xba (show ddNode t=⟨3,[],(its.getD 16 t0).bs,r0,(its.take 16).map drefP⟩from by unfold ddNode;rw[HITS.out,Ad (by omega)]);generalize its.getD 16 t0=tt1 at HA1 HND;have H17:=Xba h17;have HL17:=Xba hl17;clear hl17 A1 h17 h2 hmc;go_upto_region 4 with fail;rename_i KK hkk;refine CZ<|Bu 33 (.pointer (some ⟨w1.heap.size,2,none⟩)) rfl (by kernel_rfl) (by kernel_rfl)<|Bu 34 (.slice (some ⟨g,off,none⟩) 17 y.ic) rfl (by kernel_rfl) (CT rfl (by kernel_rfl) c2)<|Bu 35 (.pointer (some ⟨w1.heap.size,2,none⟩)) rfl (by kernel_rfl) (by kernel_rfl)<|Bu 36 (.slice (some ⟨g,off,none⟩) 17 y.ic) rfl (by kernel_rfl) (CT rfl (by kernel_rfl) c2)<|Bu 37 (.int .i64 17) rfl (by kernel_rfl) (by kernel_rfl)<|Bu 38 (.int .i64 16) rfl (by kernel_rfl) (by kernel_rfl)<|Bu 39 (.pointer (some ⟨g,off+(0+16)*3,none⟩)) rfl (by kernel_rfl) (ES (j:=0+16) (m:=17) (c:=y.ic) rfl (by kernel_rfl) (by kernel_rfl) (by omega))<|Bu 40 (.pointer (some ⟨g,off+(0+16)*3+1,none⟩)) rfl (by kernel_rfl) (by kernel_rfl)<|Bu 41 (.slice y1.ba y1.bn y1.bc) rfl (by kernel_rfl) (FO rfl (by kernel_rfl) (AN HBL.out HA1.out.c1))<|Bu 42 (.agg (NV.cells ⟨3,none,0,0,y1.ba,y1.bn,y1.bc,rz,none,0,0⟩).toArray) rfl (by kernel_rfl) (Ea 92 _ rfl [(0, .int .i64 3),(2, .slice y1.ba y1.bn y1.bc)] (by kernel_rfl) _ (NI _ _ _))<|Oz 6 (.pointer (some ⟨w1.heap.size+1,0,none⟩)) rfl (by kernel_rfl) ((Ir rfl).trans (by rw[HS2.out])) ?_;refine Fy rfl (by kernel_rfl) (D3 92 _ _ rfl (w1.heap.size+1) (NV.cells ⟨3,none,0,0,y1.ba,y1.bn,y1.bc,rz,none,0,0⟩).toArray (by kernel_rfl) (by kernel_rfl) 92 nz.cells.toArray (by rw[<-HS2.out];exact Ai _ _) (CL rfl) (Cv rfl) (Am (NV.one _)))<|hkk _ _ ?_
    go_frame
    refine gen_w (p:=λv=>Code.wp _ _ _ _ v) (q:=λv=>De w1 v y ⟨3,none,0,0,y1.ba,y1.bn,y1.bc,rz,none,0,0⟩) (by
     have e:=De.setRow (w1:=w1) (v:=v2.alloc (.cells nz.cells.toArray 92)) (y:=y) (x:=nz) ⟨HB2.out.alloc _,⟨by rw[<-HS2.out];exact Ai _ _,rfl⟩,below_go HBL.out (below_new _ _),by simp[HS2.out]⟩ ⟨3,none,0,0,y1.ba,y1.bn,y1.bc,rz,none,0,0⟩ rfl;exact e) ?_
    intro v4 D4;have HD4:=Xba D4;clear D4 hkk c2;have c2:=HD4.out.ib.c2;rw[HIA.out,H17.out]at c2;go_wp2_with fail
    go_loopw [10] (λs10 u=>∃(j:Nat)(ka:Option Addr)(kn kc:Nat),j<=16/\s10= .int .i64 j/\De w1 u y ⟨3,none,0,0,y1.ba,y1.bn,y1.bc,rz,ka,kn,kc⟩/\SoR (w1.heap.size+2) u (.slice ka kn kc) ((its.take j).map drefP)) (λs10 _=>16-(intOf s10).toNat)
    case atStart=>exact⟨0,none,0,0,by omega,rfl,HD4.out,SX _ _⟩
    case round=>
     obtain⟨j,ka,kn,kc,hj,rfl,hE,hSO⟩:=hrel;have HE:=Xba hE;have HSO:=Xba hSO;clear hE hSO HD4 c2;by_cases hlt:j<16
     ·have hji:(j:Int)<16:=(by omega);obtain⟨tj,htj⟩:∃tj,its[j]?=some tj:=⟨_,Ac (by rw[HL17.out];omega)⟩;obtain⟨g',off',yj,AJ⟩:=DH HALL.out j tj htj;have ha:=AJ.ha;rw[HIA.out]at ha;cases ha;rw[AD]at AJ;have HAJ:=Xba AJ;clear AJ;have HTJ:=Xba htj;clear htj;go_upto_region 13 with fail;rename_i KK hkk;refine BW (S:=λv'=>B1 w1.heap.size v' y/\Below w1.heap.size w1 v') (by kernel_rfl) ⟨⟨HE.out.ib.c0,HE.out.ib.c1,HE.out.ib.c2⟩,HE.out.bel.drew⟩ (λhS=>?_);have hE0:=HE.out.drew;have hxia:∀v',B1 w1.heap.size v' y->v'.cell? ⟨w1.heap.size,2,none⟩=some (.slice (some ⟨g,off,none⟩) 17 y.ic):=λv' hv=>by have:=hv.c2;rwa [HIA.out,H17.out]at this
      refine Bh 0 76 (.pointer (some ⟨w1.heap.size+1,37,none⟩)) rfl rfl (by kernel_rfl) (by kernel_rfl) (by kernel_rfl) (λ_ _ _ h=>h) (by kernel_rfl) (λv _=>by kernel_rfl) hS<|Bh 2 78 (.pointer (some ⟨w1.heap.size,2,none⟩)) rfl rfl (by kernel_rfl) (by kernel_rfl) (by kernel_rfl) (λ_ _ _ h=>h) (by kernel_rfl) (λv _=>by kernel_rfl) hS<|Bh 3 79 (.slice (some ⟨g,off,none⟩) 17 y.ic) rfl rfl (by kernel_rfl) (by kernel_rfl) (by kernel_rfl) (λ_ _ _ h=>h) (by kernel_rfl) (λv' hv=>CT rfl (by kernel_rfl) (hxia v' hv.1)) hS<|Bh 4 80 (.int .i64 j) rfl rfl (by kernel_rfl) (by kernel_rfl) (by kernel_rfl) (λ_ _ _ h=>h) (by kernel_rfl) (λv _=>by kernel_rfl) hS<|Bh 5 81 (.pointer (some ⟨g,off+j*3,none⟩)) rfl rfl (by kernel_rfl) (by kernel_rfl) (by kernel_rfl) (λ_ _ _ h=>h) (by kernel_rfl) (λv' _=>ES (j:=j) (m:=17) (c:=y.ic) rfl (by kernel_rfl) (by kernel_rfl) (by omega)) hS<|Bh 6 82 (.agg #[.bool yj.l, .slice yj.ba yj.bn yj.bc, .slice yj.ia yj.m yj.ic]) rfl rfl (by kernel_rfl) (by kernel_rfl) (by kernel_rfl) (λ_ _ _ h=>h) (by kernel_rfl) (λv' hv=>GS rfl (by kernel_rfl) (AN hv.2 HAJ.out.c0) (AN hv.2 HAJ.out.c1) (AN hv.2 HAJ.out.c2)) hS<|AB (rs:=[1,7]) (by kernel_rfl) (by simp) ?_;refine CK 1 77 (.slice ka kn kc) rfl rfl (by kernel_rfl) (JC rfl (by kernel_rfl) hE0.nb.c37) hS ?_ ?_
      ·refine AB (rs:=[7]) (by kernel_rfl) (by simp) ?_;refine Ek 7 83 rfl rfl (by kernel_rfl) 149 #[.agg #[.bool yj.l, .slice yj.ba yj.bn yj.bc, .slice yj.ia yj.m yj.ic]] (by kernel_rfl) (R:=λval w'=>Below wr.drew.heap.size wr.drew w'/\∃z:RV,val= .agg z.cells.toArray/\RefAt (λb=>wr.drew.heap.size<=b) w' z (drefP tj)) ((Mt tj yj wr.drew (Ci hS.2 _ _ (CX _ _ HAJ.out.li))).mono (λe w' h=>GI h)) (λval w' h=>⟨hS.1.go h.1,below_go hS.2 h.1⟩) ?_ A7;rintro val u1⟨hb1,z,rfl,hz⟩;have hS1:B1 w1.heap.size u1 y/\Below w1.heap.size w1 u1:=⟨hS.1.go hb1,below_go hS.2 hb1⟩;have hE1:=hE0.go hb1;obtain⟨v',w3,hrun,hso3,hb3⟩:=Lh hE0.sz (HSO.out.all (Ak _ _).drew) hb1 hz (by rw[AY,Ao];omega) 90;have hE2:De w1 (u1.alloc (.cells z.cells.toArray 62)) y ⟨3,none,0,0,y1.ba,y1.bn,y1.bc,rz,ka,kn,kc⟩:=hE1.go (below_new _ _);have hE3:=hE0.above hb3;obtain⟨ka',kc',hv',-⟩:=hso3.kids;obtain⟨kn',hkn⟩:∃kn',(((its.take j).map drefP)++[drefP tj]).length=kn':=⟨_,rfl⟩;rw[hkn]at hv';have hE4:=hE3.put ka' kn' kc';have hSO4:SoR (w1.heap.size+2) (w3.setCell ⟨w1.heap.size+1,37,none⟩ v') v' ((its.take (j+1)).map drefP):=(by rw[NJ HTJ.out];exact hso3.keep λb hb _=>A8 _ _ _ _ (by show b≠w1.heap.size+1;omega));subst hv';refine AB (rs:=[8]) (by kernel_rfl) (by simp) ?_;refine CK 8 84 (.slice (some ⟨u1.heap.size,0,none⟩) 1 1) rfl rfl (by kernel_rfl) (Kh rfl z hz.len (by kernel_rfl)) ⟨hE2.ib,hE2.bel⟩ ?_ A7;refine AB (rs:=[9]) (by kernel_rfl) (by simp) ?_;refine CK 9 85 (.slice ka' kn' kc') rfl rfl (by kernel_rfl) (Rv rfl (.slice ka kn kc) (.slice (some ⟨u1.heap.size,0,none⟩) 1 1) (by kernel_rfl) (by kernel_rfl) hrun) ⟨hE3.ib,hE3.bel⟩ ?_ A7;refine Bh 10 86 (.pointer (some ⟨w1.heap.size+1,37,none⟩)) rfl rfl (by kernel_rfl) (by kernel_rfl) (by kernel_rfl) (λ_ _ _ h=>h) (by kernel_rfl) (λv _=>by kernel_rfl) ⟨hE3.ib,hE3.bel⟩<|AB (rs:=[11]) (by kernel_rfl) (by simp) ?_;refine DG 11 rfl rfl (by kernel_rfl) (IR rfl (w1.heap.size+1) ka' kn' kc' _ (by kernel_rfl) (by kernel_rfl) hE3.nb.c37 hE3.nb.fz) ⟨hE4.ib,hE4.bel⟩ ?_ A7;refine Cl (by kernel_rfl) ?_ _;refine hkk _ _ ?_;have HE4:=Xba hE4;have HSO4:=Xba hSO4;clear hkn hE4 hSO4 hE3 hE2 hE1 hE0 hS hS1 hso3 hb3 hrun hz hb1 hkk
       go_frame
       go_wp2_with fail;exact⟨⟨j+1,ka',kn',kc',by omega,by simp,HE4.out,HSO4.out⟩,by simp[intOf];omega⟩
      refine Ek 7 83 rfl rfl (by kernel_rfl) 149 #[.agg #[.bool yj.l, .slice yj.ba yj.bn yj.bc, .slice yj.ia yj.m yj.ic]] (by kernel_rfl) (R:=λval w'=>Below wr.drew.heap.size wr.drew w'/\∃z:RV,val= .agg z.cells.toArray/\RefAt (λb=>wr.drew.heap.size<=b) w' z (drefP tj)) ((Mt tj yj wr.drew (Ci hS.2 _ _ (CX _ _ HAJ.out.li))).mono (λe w' h=>GI h)) (λval w' h=>⟨hS.1.go h.1,below_go hS.2 h.1⟩) ?_ A7;rintro val u1⟨hb1,z,rfl,hz⟩;have hS1:B1 w1.heap.size u1 y/\Below w1.heap.size w1 u1:=⟨hS.1.go hb1,below_go hS.2 hb1⟩;have hE1:=hE0.go hb1;obtain⟨v',w3,hrun,hso3,hb3⟩:=Lh hE0.sz (HSO.out.all (Ak _ _).drew) hb1 hz (by rw[AY,Ao];omega) 90;have hE2:De w1 (u1.alloc (.cells z.cells.toArray 62)) y ⟨3,none,0,0,y1.ba,y1.bn,y1.bc,rz,ka,kn,kc⟩:=hE1.go (below_new _ _);have hE3:=hE0.above hb3;obtain⟨ka',kc',hv',-⟩:=hso3.kids;obtain⟨kn',hkn⟩:∃kn',(((its.take j).map drefP)++[drefP tj]).length=kn':=⟨_,rfl⟩;rw[hkn]at hv';have hE4:=hE3.put ka' kn' kc';have hSO4:SoR (w1.heap.size+2) (w3.setCell ⟨w1.heap.size+1,37,none⟩ v') v' ((its.take (j+1)).map drefP):=(by rw[NJ HTJ.out];exact hso3.keep λb hb _=>A8 _ _ _ _ (by show b≠w1.heap.size+1;omega));subst hv';refine AB (rs:=[1,8]) (by kernel_rfl) (by simp) ?_;refine CK 1 77 (.slice ka kn kc) rfl rfl (by kernel_rfl) (JC rfl (by kernel_rfl) hE1.nb.c37) hS1 ?_ ?_
      ·refine AB (rs:=[8]) (by kernel_rfl) (by simp) ?_;refine CK 8 84 (.slice (some ⟨u1.heap.size,0,none⟩) 1 1) rfl rfl (by kernel_rfl) (Kh rfl z hz.len (by kernel_rfl)) ⟨hE2.ib,hE2.bel⟩ ?_ A7;refine AB (rs:=[9]) (by kernel_rfl) (by simp) ?_;refine CK 9 85 (.slice ka' kn' kc') rfl rfl (by kernel_rfl) (Rv rfl (.slice ka kn kc) (.slice (some ⟨u1.heap.size,0,none⟩) 1 1) (by kernel_rfl) (by kernel_rfl) hrun) ⟨hE3.ib,hE3.bel⟩ ?_ A7;refine Bh 10 86 (.pointer (some ⟨w1.heap.size+1,37,none⟩)) rfl rfl (by kernel_rfl) (by kernel_rfl) (by kernel_rfl) (λ_ _ _ h=>h) (by kernel_rfl) (λv _=>by kernel_rfl) ⟨hE3.ib,hE3.bel⟩<|AB (rs:=[11]) (by kernel_rfl) (by simp) ?_;refine DG 11 rfl rfl (by kernel_rfl) (IR rfl (w1.heap.size+1) ka' kn' kc' _ (by kernel_rfl) (by kernel_rfl) hE3.nb.c37 hE3.nb.fz) ⟨hE4.ib,hE4.bel⟩ ?_ A7;refine Cl (by kernel_rfl) ?_ _;refine hkk _ _ ?_;have HE4:=Xba hE4;have HSO4:=Xba hSO4;clear hkn hE4 hSO4 hE3 hE2 hE1 hE0 hS hS1 hso3 hb3 hrun hz hb1 hkk
       go_frame
       go_wp2_with fail;exact⟨⟨j+1,ka',kn',kc',by omega,by simp,HE4.out,HSO4.out⟩,by simp[intOf];omega⟩
      refine CK 8 84 (.slice (some ⟨u1.heap.size,0,none⟩) 1 1) rfl rfl (by kernel_rfl) (Kh rfl z hz.len (by kernel_rfl)) ⟨hE2.ib,hE2.bel⟩ ?_ A7;refine AB (rs:=[1]) (by kernel_rfl) (by simp) ?_;refine CK 1 77 (.slice ka kn kc) rfl rfl (by kernel_rfl) (JC rfl (by kernel_rfl) hE2.nb.c37) ⟨hE2.ib,hE2.bel⟩ ?_ A7;refine AB (rs:=[9]) (by kernel_rfl) (by simp) ?_;refine CK 9 85 (.slice ka' kn' kc') rfl rfl (by kernel_rfl) (Rv rfl (.slice ka kn kc) (.slice (some ⟨u1.heap.size,0,none⟩) 1 1) (by kernel_rfl) (by kernel_rfl) hrun) ⟨hE3.ib,hE3.bel⟩ ?_ A7;refine Bh 10 86 (.pointer (some ⟨w1.heap.size+1,37,none⟩)) rfl rfl (by kernel_rfl) (by kernel_rfl) (by kernel_rfl) (λ_ _ _ h=>h) (by kernel_rfl) (λv _=>by kernel_rfl) ⟨hE3.ib,hE3.bel⟩<|AB (rs:=[11]) (by kernel_rfl) (by simp) ?_;refine DG 11 rfl rfl (by kernel_rfl) (IR rfl (w1.heap.size+1) ka' kn' kc' _ (by kernel_rfl) (by kernel_rfl) hE3.nb.c37 hE3.nb.fz) ⟨hE4.ib,hE4.bel⟩ ?_ A7;refine Cl (by kernel_rfl) ?_ _;refine hkk _ _ ?_;have HE4:=Xba hE4;have HSO4:=Xba hSO4;clear hkn hE4 hSO4 hE3 hE2 hE1 hE0 hS hS1 hso3 hb3 hrun hz hb1 hkk
      go_frame
      go_wp2_with fail;exact⟨⟨j+1,ka',kn',kc',by omega,by simp,HE4.out,HSO4.out⟩,by simp[intOf];omega⟩
     ·have hji:¬(j:Int)<16:=(by omega);have hj16:j=16:=(by omega);subst hj16;obtain⟨ka',kc',hv',hk1,hk2,hk3,hk4⟩:=HSO.out.kids;have hkl:((its.take 16).map drefP).length=16:=(by rw[AY,Ao,HL17.out];rfl);rw[hkl]at hv' hk1 hk3;cases hv';obtain⟨nn,hnn⟩:∃nn:PN,nn=⟨3,[],tt1.bs,r0,(its.take 16).map drefP⟩:=⟨_,rfl⟩;have hnd:=HND.out;rw[<-hnn]at hnd;clear HND;have HND:=Xba hnd;have HSW:=Xba HD1.out.sz;have hv1:AgK (OwnP (λb=>w.heap.size+1<=b) w1) w1 y1.ba y1.bn y1.bc tt1.bs:=by obtain⟨l,bs,its'⟩:=tt1;exact Io HA1.out.li
      have HNA:=Xba (show NodeAt (λg=>w.heap.size<g) wr ⟨3,none,0,0,y1.ba,y1.bn,y1.bc,rz,ka,16,kc⟩ nn from by
       subst hnn;exact⟨rfl,Fz _ _,hv1.go (λk hK hk=>⟨HE.out.bel.block k hk,by have:=hK.1;omega⟩),Fc _ _,⟨hkl.symm,hk1,hk2,(by show(16:Nat)<=_;omega),λh=>(by have:=(hk3 h).1;omega)⟩,hk4.go (λk hK hk=>⟨rfl,by have:=HSW.out;omega⟩)⟩)
      have HDE:=HE;have vT_:True:=trivial;clear hk1 hk2 hk3 hk4 hkl hnd hnn hv1 HE HSO;go_upto_region 14 with fail;have HEN:=Xba (GH _ ⟨3,none,0,0,y1.ba,y1.bn,y1.bc,rz,ka,16,kc⟩ nn wr HNA.out (λr hrr _=>HREC.out r.i (Ry HBB.out HQ.out (by rw[HITS.out,<-HM.out];first|exact .inl H2.out|exact .inr H17.out) r (by rw[HND.out];exact hrr))));have HOK:=Xba HNA.out.okN;have HXL:=Xba HNA.out.c.len;go_wp2_with (first|refine CG rfl _ rfl (w1.heap.size+1) rfl ⟨3,none,0,0,y1.ba,y1.bn,y1.bc,rz,ka,16,kc⟩ HDE.out.nb ?_);refine HEN.out.mono ?_;rintro e w5⟨⟨a5,m5,c5,rfl,hag5,-⟩,hb5⟩;have HE5:=Xba (HDE.out.go hb5);have HD5:=Xba (HD1.out.go HE5.out.bel);have HN5:=Xba (HNA.out.go (Keep.below hb5));have hr:=HRES.out;rw[Rx HBB.out HQ.out (by rw[HND.out];exact HOK.out),HND.out]at hr;obtain⟨q,hqq⟩:∃q,NR nn=q:=⟨_,rfl⟩;rw[hqq]at hag5 hr⊢;have HQQ:=Xba hqq;clear hb5 hqq HEN;cases q with
      |false=>
       rw[Ad (by simp)]at hr;subst hr;rw[Ad (by simp)]at hag5⊢;clear hag5;go_upto_region 16 with fail;go_wp2_with (first|refine A4 rfl 92 _ _ rfl _ nz.cells.toArray rfl rfl 92 _ HD5.out.row (CL rfl) (Cv rfl) (Am (NV.one _)) ?_);refine Ap (BP results142 _ _ w.heap.size nz rfl rfl (AA _ _ _ _ _ _ HD5.out.row)) rfl ?_;exact⟨Below.setRow HD5.out.bel (Aa _) _,rfl⟩
      |true=>
       rw[Af rfl]at hag5⊢;have k1:=FJ hag5.i;have k2:=FJ (HAG.out.at HD5.out.bel).i;have HS:=Xba (Ni.str_beq hag5.b HBB.out);generalize strOfNums (NE nn)=s1 at k1 HS;generalize strOfNums b=s2 at k2 HS;clear hag5;by_cases heq:NE nn=b
       ·rw[Af ⟨rfl,heq⟩]at hr;subst hr;have hss:(!s1.toList==s2.toList)=false:=(by rw[HS.out,AT heq];rfl);clear heq;go_upto_region 17 with fail;go_wp2_with (first|refine CG rfl _ rfl (w1.heap.size+1) rfl ⟨3,none,0,0,y1.ba,y1.bn,y1.bc,rz,ka,16,kc⟩ HE5.out.nb ?_|refine A4 rfl 92 _ _ rfl _ (NV.cells ⟨3,none,0,0,y1.ba,y1.bn,y1.bc,rz,ka,16,kc⟩).toArray rfl rfl 92 _ HD5.out.row (CL HXL.out) (Cv HXL.out) (Am (NV.one _)) ?_);refine Ap (BP results142 _ _ w.heap.size ⟨3,none,0,0,y1.ba,y1.bn,y1.bc,rz,ka,16,kc⟩ HXL.out rfl (AA _ _ _ _ _ _ HD5.out.row)) rfl ?_;exact⟨Below.setRow HD5.out.bel (Aa _) _,⟨3,none,0,0,y1.ba,y1.bn,y1.bc,rz,ka,16,kc⟩,rfl,HN5.out.go λk hK hk=>⟨AX _ _ _ _ (by omega),E4 hK⟩⟩
       ·rw[Ad (λh=>heq h.2)]at hr;subst hr;have hss:(!s1.toList==s2.toList)=true:=(by rw[HS.out,AU heq];rfl);clear heq;go_upto_region 16 with fail;go_wp2_with (first|refine A4 rfl 92 _ _ rfl _ nz.cells.toArray rfl rfl 92 _ HD5.out.row (CL rfl) (Cv rfl) (Am (NV.one _)) ?_);refine Ap (BP results142 _ _ w.heap.size nz rfl rfl (AA _ _ _ _ _ _ HD5.out.row)) rfl ?_;exact⟨Below.setRow HD5.out.bel (Aa _) _,rfl⟩
   ·have hr:=HRES.out;rw[XaA HBB.out HQ.out (by rw[HITS.out,<-HM.out];omega)]at hr;subst hr;have c2:=HB2.out.c2;have e2:((y.m:Int) !=2)=true:=(by rw[BL];omega);have e17:((y.m:Int) !=17)=true:=(by rw[BL];omega);have HD2:=Xba (HD1.out.go HBL.out);go_wp2_with (first|refine A4 rfl 92 _ _ rfl _ nz.cells.toArray rfl rfl 92 _ HD2.out.row (CL rfl) (Cv rfl) (Am (NV.one _)) ?_);refine Ap (BP results142 _ _ w.heap.size nz rfl rfl (AA _ _ _ _ _ _ HD2.out.row)) rfl ?_;exact⟨Below.setRow HD2.out.bel (Aa _) _,rfl⟩
theorem Qd:∀(L:Nat)(b:List Int),b.length<=L->DDSaid b:=by
 intro L
 induction L using Nat.strongRecOn with
 |_ L ih=>
  intro b hL;exact ON b λi h1=>ih i.length (by omega) i (Aa _)
theorem KJ(b:List Int):DDSaid b:=Qd b.length b (Aa _)
theorem rright_any(K:Nat->Prop)(x:NV)(n:PN)(w:World)(h:NodeAt K w x n):Calls prog 104 #[.agg x.cells.toArray] w λe w'=>e= .returned (.bool (NR n))/\Below w.heap.size w w':=Hh K x n w h λr _ _=>KJ r.i
theorem OO(K:Nat->Prop)(x:NV)(n:PN)(w:World)(h:NodeAt K w x n):Calls prog 73 #[.agg x.cells.toArray] w (EEPost w n):=GH K x n w h λr _ _=>KJ r.i
end Go.Proofs.YtalhnnjpjaeakaaGreat
namespace Go.Proofs.YtalhnnjpjaeakaaGreat
open Tr
variable {w w' : World} {a : Option Addr} {n c g gW base gK j gB gN : Nat} {K X : Nat → Prop} {k : Nat → Tr} {vs : Nat → Value} {vN vN' vM : Value} {y : RV} {ys : Nat → RV} {x : List Int}
theorem XaB{y:NV}{t:Tr}(hne:t≠no)(h:NodeAt (λ_=>True) w y (nodeP t)):
 Calls prog 73 #[.agg y.cells.toArray] w λe w'=>∃u,e= .returned u/\(∃a m c z,u= .tuple #[.slice a m c, .int .i64 z]/\Sk (λ_=>True) w' a m c (encT t)/\m<=65540)/\Bl w w':=
 (OO _ y (nodeP t) w h).mono (λe w'⟨⟨a,m,c,e1,h1,_⟩,h2⟩=>⟨_,e1,⟨a,m,c,_,rfl,⟨by rw[Kb hne];unfold NEP;split<;>simp_all,λ_ _ _=>trivial⟩,by have h9:=ST h.okN;have h8:=h1.l;unfold NEP at h9;split at h9<;>simp_all⟩,h2⟩)
theorem Ki{t:Tr}(hne:t≠no)(hNd:Calls prog 74 #[.slice a n c] w λe w'=>∃u,e= .returned u/\RN7 w t u w'):
 Calls prog 50 #[.slice a n c] w λe w'=>∃u,e= .returned u/\RB7 w t u w':=by
 have hB:=Bl.refl w;refine Dp func50 12<|Hc 8 (R:=RN7 w t) (hNd) ?_;rintro _ u1⟨⟨y,rfl,hN⟩,hb1⟩;refine Hc 0 (R:=λu w'=>(∃a m c z,u= .tuple #[.slice a m c, .int .i64 z]/\Sk (λ_=>True) w' a m c (encT t)/\m<=65540)/\Bl u1 w') (XaB hne hN) ?_;rintro _ u2⟨⟨a2,m2,c2,z2,rfl,hs2,hm2⟩,hb2⟩;replace hB:=(hB.go hb1).go hb2;exact Hr 14 (.slice a2 m2 c2) ⟨_,rfl,⟨a2,m2,c2,rfl,hs2,hm2⟩,hB⟩
theorem Qe(b k:Nat)(hk:k≠b):∀(vs:List Value)(o:Nat)(w:World),(w.setCells b o vs).heap[k]?=w.heap[k]?
 |[],_,_=>rfl
 |v::r,o,w=>(Qe b k hk r (o+1) _).trans (A8 _ _ _ _ hk)
theorem Tb(b:Nat):∀(vs:List Value)(o:Nat)(w:World),(w.setCells b o vs).os=w.os/\(w.setCells b o vs).tape=w.tape/\(w.setCells b o vs).output=w.output/\(w.setCells b o vs).heap.size=w.heap.size
 |[],_,_=>⟨rfl,rfl,rfl,rfl⟩
 |v::r,o,w=>by
  obtain⟨h1,h2,h3,h4⟩:=Tb b r (o+1) (w.setCell ⟨b,o,none⟩ v);exact⟨h1,h2,h3,h4.trans (by simp)⟩
theorem Xb(b:Nat)(t:TypeId):∀(vs:List Value)(o:Nat)(w:World)(cur:Array Value),w.heap[b]?=some (.cells cur t (0,0))->∃cur':Array Value,(w.setCells b o vs).heap[b]?=some (.cells cur' t (0,0))/\cur'.size=cur.size
 |[],_,_,cur,h=>⟨cur,h,rfl⟩
 |v::r,o,w,cur,h=>by
  obtain⟨c',h1,h2⟩:=Xb b t r (o+1) (w.setCell ⟨b,o,none⟩ v) _ (AO w b o cur t v h);exact⟨c',h1,by rw[h2];simp⟩
structure St(w w':World)(g:Nat):Prop where
 other:∀k,k≠g->w'.heap[k]?=w.heap[k]?
 os:w'.os=w.os
 tape:w'.tape=w.tape
 output:w'.output=w.output
 size:w'.heap.size=w.heap.size
theorem St.of(w:World)(g o:Nat)(vs:List Value):St w (w.setCells g o vs) g:=by
 obtain⟨h1,h2,h3,h4⟩:=Tb g vs o w;exact⟨λk hk=>Qe g k hk vs o w,h1,h2,h3,h4⟩
theorem Sk.st{bs:List Int}(h:Sk K w a n c bs)(hp:St w w' g)(hK:∀b,K b->b≠g):Sk K w' a n c bs:=by
 refine⟨⟨?_,h.ag.nil,h.ag.l,h.ag.b⟩,h.k⟩;rcases h.ag.i with h1|⟨gb,off,h1,h2,h3,h4,h5,h7⟩
 ·exact .inl h1
 ·exact .inr ⟨gb,off,h1,h2,h3,h4,h5,λj hj=>(Aq (show w'.heap[gb]?=w.heap[gb]? from hp.other gb (hK gb (h.k _ h1 h3)))).trans (h7 j hj)⟩
theorem TA.st(hp:St w w' g)(hK:∀b,K b->b≠g):∀{t:Tr}{v:Value},TA K w t v->TA K w' t v:=by
 intro t
 induction t with
 |no=>intro v h;exact h
 |leaf p x=>rintro v⟨a,n,c,a',n',c',h1,h2,h3,h4⟩;exact⟨a,n,c,a',n',c',h1,h2.st hp hK,h3.st hp hK,h4⟩
 |ext p t ih=>rintro v⟨a,n,c,u,h1,h2,h3⟩;exact⟨a,n,c,u,h1,h2.st hp hK,ih h3⟩
 |br k x ih=>rintro v⟨vs,a,n,c,h1,h2,h3,h4⟩;exact⟨vs,a,n,c,h1,λi hi=>ih i (h2 i hi),h3.st hp hK,h4⟩
theorem TK.st(h:TK K w k vs)(hp:St w w' g)(hK:∀b,K b->b≠g):TK K w' k vs:=λi hi=>(h i hi).st hp hK
theorem TA.aged:∀{t:Tr}{v:Value},TA (KW gW vN X) w t v->TA (KW gW vN (λb=>b<w.heap.size)) w t v:=by
 intro t
 induction t with
 |no=>intro v h;exact h
 |leaf p x=>rintro v⟨a,n,c,a',n',c',h1,h2,h3,h4⟩;exact⟨a,n,c,a',n',c',h1,h2.aged,h3.aged,h4⟩
 |ext p t ih=>rintro v⟨a,n,c,u,h1,h2,h3⟩;exact⟨a,n,c,u,h1,h2.aged,ih h3⟩
 |br k x ih=>rintro v⟨vs,a,n,c,h1,h2,h3,h4⟩;exact⟨vs,a,n,c,h1,λi hi=>ih i (h2 i hi),h3.aged,h4⟩
theorem TK.aged(h:TK (KW gW vN X) w k vs):TK (KW gW vN (λb=>b<w.heap.size)) w k vs:=λi hi=>(h i hi).aged
theorem Rf.st{r:PR}(h:Rf K w y r)(hp:St w w' g)(hK:∀b,K b->b≠g):Rf K w' y r:=⟨h.at'.go (λb hb _=>⟨hp.other b (hK b hb),hb⟩)⟩
theorem Rw.st{g':Nat}{cells:Array Value}{T:TypeId}(h:Rw g w cells T)(hp:St w w' g')(hne:g≠g'):Rw g w' cells T:=(hp.other g hne).trans h
theorem Wt.st{ns:List (List Int)}{old:Array Value}{T:TypeId}(h:Wt w gW base vN X ns)(hr:w.heap[g]?=some (.cells old T (0,0)))(h1:T≠27)(h2:T≠81)(hX:∀b,X b->b≠g)(hp:St w w' g):Wt w' gW base vN X ns:=by
 obtain⟨vals,⟨q1,ho⟩,hv⟩:=h.o;have hne:gW≠g:=by
  rintro rfl;have:=h.r;rw[Rw,hr]at this;simp at this;exact h2 this.2
 refine⟨(hp.other _ hne).trans h.r,⟨vals,⟨q1,?_⟩,hv.1,λj u hu=>?_⟩,h.b⟩
 case refine_2=>
  obtain⟨a,n,c,e,hs,hw⟩:=hv.2 j u hu;exact⟨a,n,c,e,hs.st hp (λb hb=>hX b hb.2.2),hw.at hs (λb hK _=>hp.other b (hX b hK.2.2))⟩
 rcases ho with q|⟨g',cap,cur,e1,e2,e3,e4⟩
 ·exact .inl q
 ·refine .inr ⟨g',cap,cur,e1,e2,(hp.other _ ?_).trans e3,e4⟩;rintro rfl;rw[hr]at e3;simp at e3;exact h1 e3.2
theorem Wg.st{v v':World}(h:Wg w v gW vN vN')(hp:St v v' g)(hg:w.heap.size<=g):Wg w v' gW vN vN':=
 ⟨hp.os.trans h.os,hp.tape.trans h.tape,hp.output.trans h.output,by rw[hp.size];exact h.size,λk hk h1 h2=>(hp.other k (by omega)).trans (h.block k hk h1 h2),h.own⟩
def kz:Array Value:=(Array.range 544).map (λx=>rz.cells.toArray[x%34]!)
def updR(ys:Nat->RV)(i:Nat)(y:RV):Nat->RV:=λj=>if j=i then y else ys j
structure Kr(gK:Nat)(w:World)(ys:Nat->RV):Prop where
 row:∃cur:Array Value,w.heap[gK]?=some (.cells cur 62 (0,0))/\cur.size=544
 rng:∀i,i<16->w.rangeAt gK (0+i*34) (ys i).cells
 ln:∀i,(ys i).d.length=32
theorem Kr.same(h:Kr gK w ys)(e:w'.heap[gK]?=w.heap[gK]?):Kr gK w' ys:=by
 obtain⟨cur,h1,h2⟩:=h.row;exact⟨⟨cur,e.trans h1,h2⟩,λi hi m v hv=>(Aq (show w'.heap[gK]?=w.heap[gK]? from e)).trans (h.rng i hi m v hv),h.ln⟩
theorem Kr.wg{ns:List (List Int)}(h:Kr gK w ys)(hg:Wg w w' gW vN vN')(hw:Wt w gW base vN X ns):Kr gK w' ys:=by
 obtain⟨cur,h1,h2⟩:=h.row;exact h.same ((hg.row hw h1 (by decide) (by decide)).trans h1.symm)
theorem Kr.lt(h:Kr gK w ys):gK<w.heap.size:=by
 obtain⟨cur,h1,h2⟩:=h.row;exact lt_of_get h1
theorem Kr.there(h:Kr gK w ys)(hj:j<16):w.there gK (0+j*34) 34:=by
 obtain⟨cur,h1,h2⟩:=h.row;intro m hm;refine⟨?_,AL _ _ _ _ _ h1⟩;rw[Ae _ _ _ _ _ _ h1,CJ (by omega)];rfl
theorem Kr.put(h:Kr gK w ys)(hj:j<16)(hy:y.d.length=32):Kr gK (w.setCells gK (0+j*34) y.cells) (updR ys j y):=by
 have ht:=h.there hj;obtain⟨cur,h1,h2⟩:=h.row;obtain⟨cur',h3,h4⟩:=Xb gK 62 y.cells (0+j*34) w cur h1;refine⟨⟨cur',h3,h4.trans h2⟩,λi hi=>?_,λi=>?_⟩
 ·unfold updR;by_cases e:i=j
  ·rw[Af e,e];exact World.rangeAt_setCells_same w gK (0+j*34) y.cells (by rw[RV.len hy];exact ht)
  ·rw[Ad e];refine World.rangeAt_setCells_apart (h.rng i hi) gK (0+j*34) y.cells (.inr ?_);rw[RV.len (h.ln i),RV.len hy];omega
 ·unfold updR;split
  ·exact hy
  ·exact h.ln i
theorem Kr.new(h:New w w' gK kz 62):Kr gK w' (λ_=>rz):=by
 refine⟨⟨kz,h.row,by simp[kz]⟩,λi hi m v hv=>?_,λ_=>rfl⟩;have hm:m<34:=by have:=(Aw.1 hv).1;rw[RV.len (x:=rz) rfl]at this;exact this
 rw[Ae _ _ _ _ _ _ h.row];unfold kz;rw[Array.getElem?_map,CJ (by rw[Array.size_range];omega)];rw[Array.getElem_range,BN];rw[show(0+i*34+m)%34=m from by omega];rw[<-hv,getElem!_pos _ _ (by rw[Bb,RV.len (x:=rz) rfl];exact hm)];simp
theorem UC{ρ:Operand->Value}{w:World}{o:Oper}(x z:Operand){gK j:Nat}{ys:Nat->RV}{y:RV}(h:Kr gK w ys)(hj:j<16)(hy:y.d.length=32)(ho:o.op= .store 62 x z)(hx:ρ x= .pointer (some ⟨gK,0+j*34,none⟩))(hz:ρ z= .agg y.cells.toArray):
 (execOp ρ o).run prog w= .ok .skip (w.setCells gK (0+j*34) y.cells):=by
 have:=run_storeAt_mid (P:=prog) w gK (0+j*34) 62 y.cells.toArray (by rw[Fd hy];exact h.there hj) (by rw[FP,Fd hy]) (Mm y);unfold execOp;simp only[ho,hx,hz,Bm,this,AH,Bp]
def rP(k:Nat->Tr)(i:Nat):PR:=if(k i).isNo then r0 else referP (encT (k i))
def nmK(k:Nat->Tr)(i:Nat):List (List Int):=if(k i).isNo then[]else nmd (k i)++nm1 (encT (k i))
def nmJ(k:Nat->Tr)(j:Nat):List (List Int):=(List.range j).flatMap (nmK k)
theorem G1(k:Nat->Tr)(j:Nat):nmJ k (j+1)=nmJ k j++nmK k j:=by simp[nmJ,List.range_succ,List.flatMap_append]
theorem Mw(k:Nat->Tr)(i:Nat):∀d,(nmJ k i).length<=(nmJ k (i+d)).length
 |0=>Aa _
 |d+1=>by rw[<-CC,G1,Ab];have:=Mw k i d;omega
theorem R9:(λ(va:Option Addr)(vn vc:Nat)(ka:Option Addr)(kn kc:Nat)=>prog.built 92 [(0, .int .i64 3),(4, .slice ka kn kc),(2, .slice va vn vc)])=λva vn vc ka kn kc=>some (NV.cells ⟨3,none,0,0,va,vn,vc,rz,ka,kn,kc⟩).toArray:=by kernel_rfl
theorem UD(va:Option Addr)(vn vc:Nat)(ka:Option Addr)(kn kc:Nat):prog.built 92 [(0, .int .i64 3),(4, .slice ka kn kc),(2, .slice va vn vc)]=some (NV.cells ⟨3,none,0,0,va,vn,vc,rz,ka,kn,kc⟩).toArray:=AC (AC (AC (AC (AC (AC R9 va) vn) vc) ka) kn) kc
def RFS(t:Tr):Prop:=∀{v:World}{gW base:Nat}{vM:Value}{Y Z:Nat->Prop}{ns:List (List Int)}{val:Value},TA (KW gW vM Z) v t val->Wt v gW base vM Y ns->(∀b,v.heap.size<=b->Y b)->(ns++nmd t).length+1<=7600000000000->Calls prog 186 #[.pointer (some ⟨gW,0,none⟩),val] v λe w'=>∃u,e= .returned u/\RRf v gW base vM Y ns t u w'
structure BI(w:World)(gW base:Nat)(vN:Value)(X:Nat->Prop)(ns:List (List Int))(k:Nat->Tr)(vs:Nat->Value)(a:Option Addr)(n c:Nat)(x:List Int)(gB gN gK:Nat)(j:Nat)(vM:Value)(ys:Nat->RV)(v:World):Prop where
 hrB:Rw gB v (brc vs (.slice a n c)) 215
 hrN:Rw gN v nz.cells.toArray 92
 hK:Kr gK v ys
 hk:TK (KW gW vM (λb=>b<w.heap.size)) v k vs
 hx:Sk (KW gW vM (λb=>b<w.heap.size)) v a n c x
 hr:∀i,i<16->Rf (KW gW vM (λb=>gK<b)) v (ys i) (if i<j then rP k i else r0)
 hW:Wt v gW base vM (λb=>X b/\b≠gN/\b≠gK) (ns++nmJ k j)
 hG:Wg w v gW vN vM
theorem BI.skip{ns:List (List Int)}{v:World}(h:BI w gW base vN X ns k vs a n c x gB gN gK j vM ys v)(hno:(k j).isNo=true):BI w gW base vN X ns k vs a n c x gB gN gK (j+1) vM ys v:=by
 refine⟨h.hrB,h.hrN,h.hK,h.hk,h.hx,λi hi=>?_,by rw[G1,show nmK k j=[]from by unfold nmK;rw[Af hno],A3];exact h.hW,h.hG⟩;have:=h.hr i hi;by_cases e:i=j
 ·subst e;rw[Ad (by omega)]at this;rw[Af (by omega),show rP k i=r0 from by unfold rP;rw[Af hno]];exact this
 ·by_cases h1:i<j
  ·rw[Af h1]at this;rw[Af (by omega)];exact this
  ·rw[Ad h1]at this;rw[Ad (by omega)];exact this
theorem BI.step{ns:List (List Int)}{v:World}(h:BI w gW base vN X ns k vs a n c x gB gN gK j vM ys v)(hj:j<16)(hno:(k j).isNo=false)(hg1:w.heap.size<=gB)(hg2:gB<gN)(hg3:gN<gK)
 {vP:Value} {u:World} (hRf:Rf (KW gW vP (λb=>v.heap.size<b)) u y (referP (encT (k j)))) (hW:Wt u gW base vP (λb=>X b/\b≠gN/\b≠gK) ((ns++nmJ k j)++(nmd (k j)++nm1 (encT (k j))))) (hG:Wg v u gW vM vP):Kr gK u ys/\BI w gW base vN X ns k vs a n c x gB gN gK (j+1) vP (updR ys j y) (u.setCells gK (0+j*34) y.cells):=by
 have hKu:=h.hK.wg hG h.hW;have hlt:=h.hK.lt;have hst:=St.of u gK (0+j*34) y.cells;have hyl:=hRf.at'.len;obtain⟨cur,hc1,hc2⟩:=hKu.row;refine⟨hKu,(h.hrB.wg hG h.hW (by decide) (by decide)).st hst (by omega),(h.hrN.wg hG h.hW (by decide) (by decide)).st hst (by omega),hKu.put hj hyl,(h.hk.wg hG).st hst (λb hb=>by have:=hb.2.2;omega),(h.hx.wg hG).st hst (λb hb=>by have:=hb.2.2;omega),λi hi=>?_,?_,(h.hG.trans hG).st hst (by omega)⟩
 ·by_cases e:i=j
  ·subst e;rw[Af (by omega),show updR ys i y i=y from by simp[updR],show rP k i=referP (encT (k i))from by unfold rP;rw[Ad (by simp[hno])]];exact(hRf.mono (λb hb=>⟨hb.1,hb.2.1,by have:=hb.2.2;omega⟩)).st hst (λb hb=>by have:=hb.2.2;omega)
  ·rw[show updR ys j y i=ys i from by simp[updR,e]];have q:=((h.hr i hi).wg hG).st hst (λb hb=>by have:=hb.2.2;omega);by_cases h1:i<j
   ·rw[Af h1]at q;rw[Af (by omega)];exact q
   ·rw[Ad h1]at q;rw[Ad (by omega)];exact q
 ·have e:ns++nmJ k (j+1)=(ns++nmJ k j)++(nmd (k j)++nm1 (encT (k j))):=by rw[G1,show nmK k j=nmd (k j)++nm1 (encT (k j))from by unfold nmK;rw[Ad (by simp[hno])],AE]
  rw[e];exact hW.st hc1 (by decide) (by decide) (λb hb=>hb.2.2) hst
theorem UE(K:Nat->Prop)(w:World):RefAt K w rz r0:=⟨rfl,rfl,(Hg w).2.2.1,rfl,⟨.inl ⟨rfl,rfl⟩,λ_=>⟨rfl,rfl⟩,rfl,λx hx=>by cases hx⟩,Ay _,λ_ _ e=>by cases e⟩
theorem YQ(h:Kr gK w ys)(hr:∀i,i<16->Rf K w (ys i) (if i<16 then rP k i else r0)):KidsAt (λ_=>True) w (some ⟨gK,0,none⟩) (nodeP (br k x)).ks:=by
 intro j r hj;have hl:j<16:=by have:=(Aw.1 hj).1;simpa[nodeP]using this
 have e:r=rP k j:=by
  simp only[nodeP]at hj;rw[Bx,List.getElem?_range hl]at hj;simp at hj;rw[<-hj];rfl
 have q:=hr j hl;rw[Af hl]at q;exact⟨gK,0,ys j,rfl,trivial,h.rng j hl,by rw[e];exact q.at'.go (λb hb _=>⟨rfl,trivial⟩)⟩
theorem UF{ns:List (List Int)}(hW:Wt w gW base vN X ns){Z:Nat->Prop}(hk:TK (KW gW vN Z) w k vs)(hx:Sk (KW gW vN Z) w a n c x)(hn2:n<=256)(hX:∀b,w.heap.size<=b->X b)(hR:∀i,i<16->k i=no∨RFS (k i))(hM:(ns++nmJ k 16).length+1<=7600000000000):
 Calls prog 182 #[.agg (brc vs (.slice a n c)), .pointer (some ⟨gW,0,none⟩)] w λe w'=>∃u,e= .returned u/\RNd w gW base vN X ns (br k x) u w':=by
 have hB:=Bl.refl w;have hW0:=hW;refine Dp func182 28<|Hn 2 (brc vs (.slice a n c)) 215 ?_;intro w1 gB hnB hrB;have hgB:=hnB.hg;have hsB:=hnB.size;refine Hn 0 nz.cells.toArray 92 ?_;intro w2 gN hnN hrN;have hgN:=hnN.hg;have hsN:=hnN.size;refine Ko 4 kz 62 16 ?_;intro w3 gK hnK _;have hK:=Kr.new hnK;have hgK:=hnK.hg;replace hk:=((hk.aged.go hnB.below).go hnN.below).go hnK.below;replace hx:=((hx.aged.go hnB.below).go hnN.below).go hnK.below;replace hB:=((hB.go hnB.below).go hnN.below).go hnK.below;replace hrB:=(hrB.go hnN.below).go hnK.below;replace hrN:=hrN.go hnK.below;have hI:BI w gW base vN X ns k vs a n c x gB gN gK 0 vN (λ_=>rz) w3:=⟨hrB,hrN,hK,hk,hx,λi hi=>by rw[Ad (by omega)];exact⟨UE _ _⟩,(by rw[show nmJ k 0=[]from rfl,A3];exact(hW0.mono (Y:=λb=>X b/\b≠gN/\b≠gK) (λb hb hx=>⟨hx,by omega,by omega⟩)).go hB),Wg.of_below hB⟩;have hord:w.heap.size<=gB/\gB<gN/\gN<gK:=by omega
 clear hrB hrN hK hk hx hB;refine Hx 7 (og f182 2 1) (.agg (bra vs)) (λ_=>Oe hI.hrB _ rfl (by kernel_rfl))<|Ho (X:=Nat×Value×(Nat->RV)) 4 (λz=>[(11, .int .i64 ((z.1:Nat):Int)),(10, .agg (bra vs)),(5, .slice (some ⟨gK,0,none⟩) 16 16),(1, .pointer (some ⟨gW,0,none⟩)),(2, .pointer (some ⟨gB,0,none⟩)),(4, .pointer (some ⟨gN,0,none⟩))]) (λz v=>BI w gW base vN X ns k vs a n c x gB gN gK z.1 z.2.1 z.2.2 v/\z.1<=16) (λz=>16-z.1) (0,vN,λ_=>rz) ⟨hI,Ay _⟩ ?_;clear hI;rintro⟨j,vM,ys⟩ v⟨hI,hj⟩ I1 hN1;simp only at hI hj;by_cases hlt:j<16
 ·skip
  refine Ht 2 ((j:Int)<(16:Int))<|Hx 11 (og f182 4 1) (vs j) (λ_=>JK _ _ vs j hlt rfl (by kernel_rfl) (by kernel_rfl))<|Hx 7 (og f182 5 1) (.bool (!(k j).isNo)) (λ_=>Vs (hI.hk j hlt) _ _ rfl (by kernel_rfl) (by kernel_rfl)) ?_;cases hno:(k j).isNo with
  |true=>
   have hI2:=hI.skip hno;refine Hi 7 ((j:Int)+1) ((j+1:Nat):Int) ?_;exact hN1 2 (j+1,vM,ys) ⟨hI2,by omega⟩ (by show 16-(j+1)<16-j;omega) (λ_=>by kernel_rfl)
  |false=>
   have hRj:RFS (k j):=by
    rcases hR j hlt with h|h
    ·rw[h]at hno;simp[isNo]at hno
    ·exact h
   have hMj:((ns++nmJ k j)++nmd (k j)).length+1<=7600000000000:=by
    have h1:=Mw k (j+1) (15-j);rw[show j+1+(15-j)=16 from by omega,G1,show nmK k j=nmd (k j)++nm1 (encT (k j))from by unfold nmK;rw[Ad (by simp[hno])]]at h1;simp only[Ab]at h1 hM⊢;omega
   refine Hc 8 (R:=RRf v gW base vM (λb=>X b/\b≠gN/\b≠gK) (ns++nmJ k j) (k j)) (hRj (hI.hk j hlt) hI.hW (λb hb=>⟨hX b (Al hI.hG.size hb),by have:=hI.hK.lt;omega,by have:=hI.hK.lt;omega⟩) hMj) ?_;rintro _ u1⟨y,vP,rfl,hRf,hW1,hG1⟩;have hyl:=hRf.at'.len;obtain⟨hKu,hI2⟩:=hI.step hlt hno hord.1 hord.2.1 hord.2.2 hRf hW1 hG1;refine Hx 0 (og f182 6 5) (.pointer (some ⟨gK,0+j*34,none⟩)) (λ_=>AV 90 _ _ gK 0 j 16 16 34 62 rfl (by kernel_rfl) (by kernel_rfl) hlt underlying90 (by kernel_rfl))<|Hs 0 (og f182 6 6) (λ_=>UC _ _ hKu hlt hyl rfl (by kernel_rfl) (by kernel_rfl)) ?_;generalize u1.setCells gK (0+j*34) y.cells=wS at hI2⊢;refine Hi 4 ((j:Int)+1) ((j+1:Nat):Int) ?_;exact hN1 2 (j+1,vP,updR ys j y) ⟨hI2,by omega⟩ (by show 16-(j+1)<16-j;omega) (λ_=>by kernel_rfl)
 obtain rfl:j=16:=by omega
 refine Hb 2 (decide (((16:Nat):Int)<(16:Int))) false (rfl)<|Hl 13 hI.hrB 16 27 (.slice a n c)<|Hx 0 (og f182 8 3) (.agg (NV.cells ⟨3,none,0,0,a,n,c,rz,some ⟨gK,0,none⟩,16,16⟩).toArray) (λ_=>Fs 92 _ [(0, .int .i64 3),(4, .slice (some ⟨gK,0,none⟩) 16 16),(2, .slice a n c)] _ rfl (by kernel_rfl) (UD _ _ _ _ _ _))<|Hy 0 (og f182 8 4) gN (NV.cells ⟨3,none,0,0,a,n,c,rz,some ⟨gK,0,none⟩,16,16⟩).toArray (λ_=>CH 92 _ _ _ _ _ _ rfl (by kernel_rfl) (by kernel_rfl) hI.hrN (by rw[I6,IL (y:=⟨3,none,0,0,a,n,c,rz,some ⟨gK,0,none⟩,16,16⟩) rfl]) (by rw[IL (y:=⟨3,none,0,0,a,n,c,rz,some ⟨gK,0,none⟩,16,16⟩) rfl];rfl) (Rd _)) ?_;intro wE hpE;have hrE:Rw gN wE (NV.cells ⟨3,none,0,0,a,n,c,rz,some ⟨gK,0,none⟩,16,16⟩).toArray 92:=hpE.row hI.hrN;have hxE:=hI.hx.put hpE (λb hb=>by have:=hb.2.2;omega);have hKE:=hI.hK.same (hpE.other (by omega));have hRE:=λi hi=>(hI.hr i hi).put hpE (λb hb=>by have:=hb.2.2;omega);have hWE:=(hI.hW.put hI.hrN (by decide) (by decide) (λb hb=>hb.2.1) hpE).mono (Y:=X) (λb _ hb=>hb.1);have hGE:=hI.hG.put hpE (by omega);have lx:=hxE.len;exact UX 3 (.agg (NV.cells ⟨3,none,0,0,a,n,c,rz,some ⟨gK,0,none⟩,16,16⟩).toArray) (λ_=>FE results182 _ gN ⟨3,none,0,0,a,n,c,rz,some ⟨gK,0,none⟩,16,16⟩ rfl (by kernel_rfl) hrE) ⟨_,rfl,⟨3,none,0,0,a,n,c,rz,some ⟨gK,0,none⟩,16,16⟩,vM,rfl,⟨rfl,Lg _,hxE.agk (by omega),Hg _,⟨(by simp[nodeP]),Aa _,(by show 16<=maxLen;unfold maxLen;omega),(by show 16<=_;omega),λe=>by cases e⟩,YQ hKE hRE⟩,hWE,hGE⟩
end Go.Proofs.YtalhnnjpjaeakaaGreat
