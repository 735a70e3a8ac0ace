/- What nodeOf answers. -/
import Derived.Test.YtalhnnjpjaeakaaGreatAK
import Derived.Test.YtalhnnjpjaeakaaGreatG13
import Derived.Test.YtalhnnjpjaeakaaGreatG07
import Derived.Test.YtalhnnjpjaeakaaGreatG11
import Derived.Test.YtalhnnjpjaeakaaGreatG10
set_option linter.unusedVariables false
set_option maxRecDepth 100000
set_option maxHeartbeats 8000000
open Go.Proofs.Tryz Go.RowKit
namespace Go.Proofs.YtalhnnjpjaeakaaGreat
variable {w v' : World} {ys : List V} {ts : List T} {y : V} {x : NV}
structure AtP(P:Nat->Prop)(w:World)(a:Option Addr)(k:Nat)(t:T)(g off:Nat)(y:V):Prop where
 ha:a=some ⟨g,off,none⟩
 c0:w.cell? ⟨g,off+k*3,none⟩=some (.bool y.l)
 c1:w.cell? ⟨g,off+k*3+1,none⟩=some (.slice y.ba y.bn y.bc)
 c2:w.cell? ⟨g,off+k*3+2,none⟩=some (.slice y.ia y.m y.ic)
 li:LiesP P w t y
theorem DH{P:Nat->Prop}{w:World}{a:Option Addr}:∀{its:List T}{k:Nat},LiesPAll P w its a k->∀(i:Nat)(t:T),its[i]?=some t->∃g off y,AtP P w a (k+i) t g off y
 |[],k,_,i,t,h=>by simp at h
 |x::r,k,hl,i,t,h=>by
  obtain⟨⟨g,off,y,⟨h1,_⟩,h2,h3,h4,h5⟩,hr⟩:=liesPAll_cons.1 hl;cases i with
  |zero=>simp at h;subst h;exact⟨g,off,y,h1,h2,h3,h4,h5⟩
  |succ i=>
   obtain⟨g',off',y',A⟩:=DH hr i t (by simpa using h);rw[show k+1+i=k+(i+1)from by omega]at A;exact⟨g',off',y',A⟩
theorem J6{w:World}{a:Option Addr}:∀{its:List T}{k:Nat}(n:Nat),LiesAll w its a k->LiesAll w (its.take n) a k
 |_,_,0,_=>by rw[BD];exact Dw
 |[],_,n+1,_=>by rw[List.take_nil];exact Dw
 |x::r,k,n+1,h=>by
  rw[C1];obtain⟨h1,h2⟩:=liesAll_cons.1 h;exact liesAll_cons.2 ⟨h1,J6 n h2⟩
theorem J7{w w':World}(hb:Below w.heap.size w w'){a:Option Addr}:∀{its:List T}{k:Nat},LiesAll w its a k->LiesAll w' its a k
 |[],_,_=>Dw
 |t::r,k,h=>by
  obtain⟨⟨g,off,y,h1,h2,h3,h4,h5⟩,hr⟩:=liesAll_cons.1 h;exact liesAll_cons.2 ⟨⟨g,off,y,h1,AN hb h2,AN hb h3,AN hb h4,Ci hb t y h5⟩,J7 hb hr⟩
theorem K8{P:Nat->Prop}{o:Option PN}{e:Ending}{w':World}(h:NPost P w o e w'):∃v,e= .returned v/\(Below w.heap.size w w'/\∃(y:NV)(b:Bool),y.c.d.length=32/\v= .tuple #[.agg y.cells.toArray, .bool b]/\b=o.isSome/\∀n,o=some n->NodeAt (OwnP P w') w' y n):=by
 obtain⟨hb,hm⟩:=h;cases o with
 |none=>
  obtain⟨y,hl,e1⟩:=hm;exact⟨_,e1,hb,y,false,hl,rfl,rfl,λn h=>by cases h⟩
 |some n=>
  obtain⟨y,e1,hn⟩:=hm;exact⟨_,e1,hb,y,true,hn.c.len,rfl,rfl,λm h=>by cases h;exact hn⟩
section
variable {a : Act} {w : World}
theorem QQ{x:Operand}{g off m c:Nat}{o:Oper}(ho:o.op= .slice 108 x none (some (.const (.int .i64 16))) none)(hx:a.eval x= .slice (some ⟨g,off,none⟩) m c)(hc:16<=c)(hm:c<=9223372036854775807):(execOp a.eval o).run prog w= .ok (.value (.slice (some ⟨g,off,none⟩) 16 c)) w:=by
 have h1:(16:Int)<=c:=by omega
 unfold execOp;rw[ho];simp only[hx,Option.map];go_simp
end
theorem QR(base:Nat)(t:T)(x:V)(w:World)(h:LiesP (λb=>base<=b) w t x)(hb:base<=w.heap.size)(hsz:∀u∈t.its,u.bs.length<=16777216):
 Calls prog 70 #[.agg #[.bool x.l, .slice x.ba x.bn x.bc, .slice x.ia x.m x.ic]] w (NPost (λg=>base<=g) w (nodeOfP t)):=by
 obtain⟨l,bs,its⟩:=t;have hsz:∀u∈its,u.bs.length<=16777216:=hsz;have hq:LiesP (λg=>base<=g/\g≠w.heap.size+1) w (.mk l bs its) x:=Bz (λb hb hlt=>⟨rfl,hb,by omega⟩) _ x h;obtain⟨⟨hl,-,hm,hmc,hcm,-⟩,hall⟩:=liesP_eq.1 hq;have hlall:=(lies_eq.1 (CX _ _ hq)).2.2.2.2.2.2;unfold maxLen at hcm;subst hl;have HM:=Xba hm;have HALL:=Xba hall;have HLA:=Xba hlall;have HSZ:=Xba hsz;obtain⟨res,hres⟩:∃res,nodeOfP (.mk x.l bs its)=res:=⟨_,rfl⟩;rw[hres];have hres:(if its.length=2 then pathP (its.getD 0 t0) (its.getD 1 t0)else if its.length=17 then branchP (its.take 16) (its.getD 16 t0)else none)=res:=hres;rw[<-hm]at hres;have HRES:=Xba hres;have HPB0:=Xba (WC w x);have HBASE:=Xba hb;clear h hb hsz hq hm hall hlall hres;go_enter func70,ntmps70;go_upto_region 1 with fail;refine gen_w (p:=λv=>Code.wp _ _ _ _ v) (q:=λv=>Pb w v x) HPB0.out ?_;clear HPB0;intro v P0;have c2:=P0.bx.c2;have HPB:=Xba P0;clear P0;have HSC:=Xba (show∀w',Below v.drew.heap.size v.drew w'->B1 w.heap.size w' x/\Below w.heap.size w w' from λw' hb=>⟨HPB.out.bx.go (below_go (Ak _ _).drew hb),below_go HPB.out.bel.drew hb⟩);have HSP:=Xba (show∀(w':World)(C:Array Value),B1 w.heap.size w' x/\Below w.heap.size w w'->B1 w.heap.size (w'.setRow (w.heap.size+1) C) x/\Below w.heap.size w (w'.setRow (w.heap.size+1) C)from λw' C h=>⟨DO h.1 (by omega),Below.setRow h.2 (by omega) _⟩);have HS0:=Xba (show B1 w.heap.size v.drew x/\Below w.heap.size w v.drew from⟨⟨HPB.out.bx.c0,HPB.out.bx.c1,HPB.out.bx.c2⟩,HPB.out.bel.drew⟩)
 have HEND:=Xba (show∀(w2:World)(y':NV)(b:Bool),y'.c.d.length=32->b=res.isSome->(∀n,res=some n->NodeAt (OwnP (λg=>base<=g/\g≠w.heap.size+1) w2) w2 y' n)->B1 w.heap.size w2 x/\Below w.heap.size w w2->NPost (λg=>base<=g) w res (.returned (.tuple #[.agg y'.cells.toArray, .bool b])) (w2.setRow (w.heap.size+1) y'.cells.toArray)from λw2 y' b hl' hbr hna hS=>by
  refine⟨Below.setRow hS.2 (by omega) _,?_⟩;subst hbr;cases res with
  |none=>exact⟨y',hl',rfl⟩
  |some n=>
   refine⟨y',rfl,(hna n rfl).go λk hK hk=>?_⟩;have e:(w2.setRow (w.heap.size+1) y'.cells.toArray).heap[k]?=w2.heap[k]?:=AX _ _ _ _ hK.1.2;exact⟨e,hK.1.1,λo=>(B6 (w:=w2) e).trans (hK.2 o)⟩)
 have HPP:=Xba (show∀g,v.drew.heap.size<=g->(base<=g/\g≠w.heap.size+1)from λg hg=>by
  have h1:v.heap.size<=g:=hg;have:=HPB.out.sz;have:=HBASE.out;omega)
 by_cases h2:x.m=2
 ·have hr:=HRES.out;rw[Af h2]at hr;have hl2:its.length=2:=by rw[<-HM.out,h2]
  rw[h2]at c2;obtain⟨g,off,y0,A0⟩:=DH HALL.out 0 (its.getD 0 t0) (by rw[List.getD,Ac (by omega)];rfl);obtain⟨g1,off1,y1,A1⟩:=DH HALL.out 1 (its.getD 1 t0) (by rw[List.getD,Ac (by omega)];rfl);have ha:=A1.ha;rw[A0.ha]at ha;cases ha;have HX0:=Xba (HSZ.out _ (FC (l:=its) (i:=0) (by omega)));have hia:=A0.ha;rw[hia]at c2;have HA0:=Xba A0;have HA1:=Xba A1;have HR:=Xba hr;have HC2:=Xba c2;generalize its.getD 0 t0=tt0 at HA0 HX0 HR;generalize its.getD 1 t0=tt1 at HA1 HR;clear hl2 hia A0 A1 hr;go_upto_region 3 with fail;rename_i KK hkk;refine BW (S:=λv'=>B1 w.heap.size v' x/\Below w.heap.size w v') (by kernel_rfl) HS0.out (λhS=>?_);have hxia:∀v',B1 w.heap.size v' x->v'.cell? ⟨w.heap.size,2,none⟩=some (.slice (some ⟨g,off,none⟩) 2 x.ic):=λv' hv=>by have:=hv.c2;rwa [HA0.out.ha,h2]at this
  refine Bh 0 9 (.pointer (some ⟨w.heap.size,2,none⟩)) rfl rfl (by kernel_rfl) (by kernel_rfl) (by kernel_rfl) (λ_ _ _ h=>h) (by kernel_rfl) (λv _=>by kernel_rfl) hS<|Bh 1 10 (.slice (some ⟨g,off,none⟩) 2 x.ic) rfl rfl (by kernel_rfl) (by kernel_rfl) (by kernel_rfl) (λ_ _ _ h=>h) (by kernel_rfl) (λv' hv=>CT rfl (by kernel_rfl) (hxia v' hv.1)) hS<|Bh 2 11 (.pointer (some ⟨g,off+(0+0)*3,none⟩)) rfl rfl (by kernel_rfl) (by kernel_rfl) (by kernel_rfl) (λ_ _ _ h=>h) (by kernel_rfl) (λv' _=>ES (j:=0+0) (m:=2) (c:=x.ic) rfl (by kernel_rfl) (by kernel_rfl) (by omega)) hS<|Bh 3 12 (.agg #[.bool y0.l, .slice y0.ba y0.bn y0.bc, .slice y0.ia y0.m y0.ic]) rfl rfl (by kernel_rfl) (by kernel_rfl) (by kernel_rfl) (λ_ _ _ h=>h) (by kernel_rfl) (λv' hv=>GS rfl (by kernel_rfl) (AN hv.2 HA0.out.c0) (AN hv.2 HA0.out.c1) (AN hv.2 HA0.out.c2)) hS<|Bh 4 13 (.pointer (some ⟨w.heap.size,2,none⟩)) rfl rfl (by kernel_rfl) (by kernel_rfl) (by kernel_rfl) (λ_ _ _ h=>h) (by kernel_rfl) (λv _=>by kernel_rfl) hS<|Bh 5 14 (.slice (some ⟨g,off,none⟩) 2 x.ic) rfl rfl (by kernel_rfl) (by kernel_rfl) (by kernel_rfl) (λ_ _ _ h=>h) (by kernel_rfl) (λv' hv=>CT rfl (by kernel_rfl) (hxia v' hv.1)) hS<|Bh 6 15 (.pointer (some ⟨g,off+(0+1)*3,none⟩)) rfl rfl (by kernel_rfl) (by kernel_rfl) (by kernel_rfl) (λ_ _ _ h=>h) (by kernel_rfl) (λv' _=>ES (j:=0+1) (m:=2) (c:=x.ic) rfl (by kernel_rfl) (by kernel_rfl) (by omega)) hS<|Bh 7 16 (.agg #[.bool y1.l, .slice y1.ba y1.bn y1.bc, .slice y1.ia y1.m y1.ic]) rfl rfl (by kernel_rfl) (by kernel_rfl) (by kernel_rfl) (λ_ _ _ h=>h) (by kernel_rfl) (λv' hv=>GS rfl (by kernel_rfl) (AN hv.2 HA1.out.c0) (AN hv.2 HA1.out.c1) (AN hv.2 HA1.out.c2)) hS<|AB (rs:=[8]) (by kernel_rfl) (by simp) ?_;refine Ek 8 17 rfl rfl (by kernel_rfl) 98 #[.agg #[.bool y0.l, .slice y0.ba y0.bn y0.bc, .slice y0.ia y0.m y0.ic], .agg #[.bool y1.l, .slice y1.ba y1.bn y1.bc, .slice y1.ia y1.m y1.ic]] (by kernel_rfl) (R:=λval w'=>Below v.drew.heap.size v.drew w'/\∃(y:NV)(b:Bool),y.c.d.length=32/\val= .tuple #[.agg y.cells.toArray, .bool b]/\b=res.isSome/\∀n,res=some n->NodeAt (OwnP (λg=>base<=g/\g≠w.heap.size+1) w') w' y n) (by rw[<-HR.out];exact(O9 (λg=>base<=g/\g≠w.heap.size+1) tt0 tt1 y0 y1 v.drew (Ci HPB.out.bel.drew _ _ (CX _ _ HA0.out.li)) (Bz (λb hb hlt=>⟨HPB.out.bel.drew.block b hlt,hb⟩) _ _ HA1.out.li) HPP.out HX0.out).mono (λe w' h=>K8 h)) (λval w' h=>HSC.out w' h.1) ?_ A7;rintro val w2⟨hb2,y',b,hl',rfl,hbr,hna⟩;have hS2:=HSC.out w2 hb2;have hrow:w2.heap[w.heap.size+1]?=some (.cells nz.cells.toArray 92):=Below.row hb2 HPB.out.row;refine Bh 9 18 (.agg y'.cells.toArray) rfl rfl (by kernel_rfl) (by kernel_rfl) (by kernel_rfl) (λ_ _ _ h=>h) (by kernel_rfl) (λv _=>by kernel_rfl) hS2<|Bh 10 19 (.bool b) rfl rfl (by kernel_rfl) (by kernel_rfl) (by kernel_rfl) (λ_ _ _ h=>h) (by kernel_rfl) (λv _=>by kernel_rfl) hS2<|AB (rs:=[11]) (by kernel_rfl) (by simp) ?_;refine DG 11 rfl rfl (by kernel_rfl) (D3 92 _ _ rfl (w.heap.size+1) y'.cells.toArray (by kernel_rfl) (by kernel_rfl) 92 nz.cells.toArray hrow (CL hl') (Cv hl') (Am (NV.one _))) (HSP.out _ _ hS2) ?_ A7;refine Bh 12 3 (.bool b) rfl rfl (by kernel_rfl) (by kernel_rfl) (by kernel_rfl) (λ_ _ _ h=>h) (by kernel_rfl) (λv _=>by kernel_rfl) (HSP.out _ _ hS2) ?_;refine Cl (by kernel_rfl) ?_ _;refine hkk _ _<|Gw results70 (λh=>h) (w.heap.size+1) y' (.bool b) hl' (by kernel_rfl) (by kernel_rfl) (by kernel_rfl) (AA _ _ _ _ _ _ hrow) ?_;exact HEND.out w2 y' b hl' hbr hna hS2
 ·by_cases h17:x.m=17
  ·have hr:=HRES.out;rw[Ad h2,Af h17]at hr;have hl17:its.length=17:=(by rw[<-HM.out,h17]);rw[h17]at c2 hmc;obtain⟨g,off,y1,A1⟩:=DH HALL.out 16 (its.getD 16 t0) (by rw[List.getD,Ac (by omega)];rfl);have hia:=A1.ha;rw[hia]at c2;have HA1:=Xba A1;have HR:=Xba hr;have hta:=J6 16 HLA.out;rw[hia]at hta;have HTA:=Xba hta;have HTL:=Xba (show(its.take 16).length=16 from by rw[Ao];omega);have H17:=Xba h17;generalize its.getD 16 t0=tt1 at HA1 HR;generalize its.take 16=tts at HTA HTL HR;clear hl17 hia A1 hr hta h17 h2;go_upto_region 5 with fail;rename_i KK hkk;refine BW (S:=λv'=>B1 w.heap.size v' x/\Below w.heap.size w v') (by kernel_rfl) HS0.out (λhS=>?_);have hxia:∀v',B1 w.heap.size v' x->v'.cell? ⟨w.heap.size,2,none⟩=some (.slice (some ⟨g,off,none⟩) 17 x.ic):=λv' hv=>by have:=hv.c2;rwa [HA1.out.ha,H17.out]at this
   refine Bh 0 22 (.pointer (some ⟨w.heap.size,2,none⟩)) rfl rfl (by kernel_rfl) (by kernel_rfl) (by kernel_rfl) (λ_ _ _ h=>h) (by kernel_rfl) (λv _=>by kernel_rfl) hS<|Bh 1 23 (.slice (some ⟨g,off,none⟩) 17 x.ic) rfl rfl (by kernel_rfl) (by kernel_rfl) (by kernel_rfl) (λ_ _ _ h=>h) (by kernel_rfl) (λv' hv=>CT rfl (by kernel_rfl) (hxia v' hv.1)) hS<|Bh 2 24 (.slice (some ⟨g,off,none⟩) 16 x.ic) rfl rfl (by kernel_rfl) (by kernel_rfl) (by kernel_rfl) (λ_ _ _ h=>h) (by kernel_rfl) (λv' _=>QQ (m:=17) rfl (by kernel_rfl) (by omega) (by omega)) hS<|Bh 3 25 (.pointer (some ⟨w.heap.size,2,none⟩)) rfl rfl (by kernel_rfl) (by kernel_rfl) (by kernel_rfl) (λ_ _ _ h=>h) (by kernel_rfl) (λv _=>by kernel_rfl) hS<|Bh 4 26 (.slice (some ⟨g,off,none⟩) 17 x.ic) rfl rfl (by kernel_rfl) (by kernel_rfl) (by kernel_rfl) (λ_ _ _ h=>h) (by kernel_rfl) (λv' hv=>CT rfl (by kernel_rfl) (hxia v' hv.1)) hS<|Bh 5 27 (.pointer (some ⟨g,off+(0+16)*3,none⟩)) rfl rfl (by kernel_rfl) (by kernel_rfl) (by kernel_rfl) (λ_ _ _ h=>h) (by kernel_rfl) (λv' _=>ES (j:=0+16) (m:=17) (c:=x.ic) rfl (by kernel_rfl) (by kernel_rfl) (by omega)) hS<|Bh 6 28 (.agg #[.bool y1.l, .slice y1.ba y1.bn y1.bc, .slice y1.ia y1.m y1.ic]) rfl rfl (by kernel_rfl) (by kernel_rfl) (by kernel_rfl) (λ_ _ _ h=>h) (by kernel_rfl) (λv' hv=>GS rfl (by kernel_rfl) (AN hv.2 HA1.out.c0) (AN hv.2 HA1.out.c1) (AN hv.2 HA1.out.c2)) hS<|AB (rs:=[7]) (by kernel_rfl) (by simp) ?_;refine Ek 7 29 rfl rfl (by kernel_rfl) 99 #[.slice (some ⟨g,off,none⟩) 16 x.ic, .agg #[.bool y1.l, .slice y1.ba y1.bn y1.bc, .slice y1.ia y1.m y1.ic]] (by kernel_rfl) (R:=λval w'=>Below v.drew.heap.size v.drew w'/\∃(y:NV)(b:Bool),y.c.d.length=32/\val= .tuple #[.agg y.cells.toArray, .bool b]/\b=res.isSome/\∀n,res=some n->NodeAt (OwnP (λg=>base<=g/\g≠w.heap.size+1) w') w' y n) (by rw[<-HR.out];exact(Md (λg=>base<=g/\g≠w.heap.size+1) tts (some ⟨g,off,none⟩) x.ic tt1 y1 v.drew HTL.out (J7 HPB.out.bel.drew HTA.out) ⟨by omega,by unfold maxLen;omega⟩ (Bz (λb hb hlt=>⟨HPB.out.bel.drew.block b hlt,hb⟩) _ _ HA1.out.li) HPP.out).mono (λe w' h=>K8 h)) (λval w' h=>HSC.out w' h.1) ?_ A7;rintro val w2⟨hb2,y',b,hl',rfl,hbr,hna⟩;have hS2:=HSC.out w2 hb2;have hrow:w2.heap[w.heap.size+1]?=some (.cells nz.cells.toArray 92):=Below.row hb2 HPB.out.row;refine Bh 8 30 (.agg y'.cells.toArray) rfl rfl (by kernel_rfl) (by kernel_rfl) (by kernel_rfl) (λ_ _ _ h=>h) (by kernel_rfl) (λv _=>by kernel_rfl) hS2<|Bh 9 31 (.bool b) rfl rfl (by kernel_rfl) (by kernel_rfl) (by kernel_rfl) (λ_ _ _ h=>h) (by kernel_rfl) (λv _=>by kernel_rfl) hS2<|AB (rs:=[10]) (by kernel_rfl) (by simp) ?_;refine DG 10 rfl rfl (by kernel_rfl) (D3 92 _ _ rfl (w.heap.size+1) y'.cells.toArray (by kernel_rfl) (by kernel_rfl) 92 nz.cells.toArray hrow (CL hl') (Cv hl') (Am (NV.one _))) (HSP.out _ _ hS2) ?_ A7;refine Bh 11 3 (.bool b) rfl rfl (by kernel_rfl) (by kernel_rfl) (by kernel_rfl) (λ_ _ _ h=>h) (by kernel_rfl) (λv _=>by kernel_rfl) (HSP.out _ _ hS2) ?_;refine Cl (by kernel_rfl) ?_ _;refine hkk _ _<|Gw results70 (λh=>h) (w.heap.size+1) y' (.bool b) hl' (by kernel_rfl) (by kernel_rfl) (by kernel_rfl) (AA _ _ _ _ _ _ hrow) ?_;exact HEND.out w2 y' b hl' hbr hna hS2
  ·have hr:=HRES.out;rw[Ad h2,Ad h17]at hr;subst hr;have e2:((x.m:Int)==2)=false:=(by rw[BB];omega);have e17:((x.m:Int)==17)=false:=(by rw[BB];omega);go_wp2_with (first|refine A4 rfl 92 _ _ rfl _ nz.cells.toArray rfl rfl 92 _ HPB.out.row (CL rfl) (Cv rfl) (Am (NV.one _)) ?_);refine Ap (BP results70 _ _ (w.heap.size+1) nz rfl rfl (AA _ _ _ _ _ _ HPB.out.row)) rfl ?_;exact⟨Below.setRow HPB.out.bel (by omega) _,nz,rfl,rfl⟩
theorem MM(K:Nat->Prop)(x:NV)(n:PN)(w:World)(h:NodeAt K w x n):
 Calls prog 100 #[.agg x.cells.toArray] w λe w'=>e= .returned (.bool (rpathP n))/\Below w.heap.size w w':=by
 have B:=E8 w x h.c.len;have HB:=Xba (below_new w (.cells x.cells.toArray 92));have hk:=h.k;have hp:=h.p;have hpb:=hp.2.1;have HL:=Xba hp.l;have HRR:=Xba (show∀v,Below w.heap.size w v->Calls prog 96 #[.slice x.pa x.pn x.pc] v λe w'=>e= .returned (.bool (Ni.rightP n.p))/\w'=v from λv hv=>Ni.right_any _ _ _ _ v (hp.1.at hv) (by omega));obtain⟨rp,hrp⟩:∃rp,Ni.rightP n.p=rp:=⟨_,rfl⟩;obtain⟨res,hres⟩:∃res,rpathP n=res:=⟨_,rfl⟩;rw[hres];unfold rpathP at hres;rw[HL.out,hrp,<-hk]at hres;rw[hrp]at HRR;have HRES:=Xba hres;clear hp h hk hres hrp;go_enter func100,ntmps100;go_upto_region 1 with fail;refine gen_w (p:=λv=>Code.wp _ _ _ _ v) (q:=λv=>NBx w.heap.size v x/\Below w.heap.size w v) ⟨B,HB.out⟩ ?_;clear B HB;rintro v⟨B,hb⟩;have HB:=Xba hb;have c0:=B.c0;have c1:=B.c1;clear hb B;by_cases h2:x.k=2
 ·by_cases h0:x.pn=0
  ·go_wp2_with fail;have hr:=HRES.out;simp[h2,h0]at hr;subst hr;go_ret
   first|exact⟨rfl,HB.out⟩|(refine⟨Av (λb=>Ending.returned (Value.bool b)) ?_,HB.out⟩;first|(simp;done)|(simp;omega))
  ·by_cases h64:x.pn<=64
   ·go_wp2_with fail;refine(HRR.out v HB.out).mono ?_;rintro e w1⟨rfl,rfl⟩;go_wp2_with fail;have hr:=HRES.out;simp[h2,h0,h64]at hr;subst hr;go_ret
    first|exact⟨rfl,HB.out⟩|(refine⟨Av (λb=>Ending.returned (Value.bool b)) ?_,HB.out⟩;first|(simp;done)|(simp;omega))
   ·go_wp2_with fail;have hr:=HRES.out;simp[h2,h0,h64]at hr;subst hr;go_ret
    first|exact⟨rfl,HB.out⟩|(refine⟨Av (λb=>Ending.returned (Value.bool b)) ?_,HB.out⟩;first|(simp;done)|(simp;omega))
 ·by_cases h1:x.k=1
  ·by_cases h64:x.pn<=64
   ·go_wp2_with fail;refine(HRR.out v HB.out).mono ?_;rintro e w1⟨rfl,rfl⟩;go_wp2_with fail;have hr:=HRES.out;simp[h1,h64]at hr;subst hr;go_ret
    first|exact⟨rfl,HB.out⟩|(refine⟨Av (λb=>Ending.returned (Value.bool b)) ?_,HB.out⟩;first|(simp;done)|(simp;omega))
   ·go_wp2_with fail;have hr:=HRES.out;simp[h1,h64]at hr;subst hr;go_ret
    first|exact⟨rfl,HB.out⟩|(refine⟨Av (λb=>Ending.returned (Value.bool b)) ?_,HB.out⟩;first|(simp;done)|(simp;omega))
  ·by_cases h0:x.pn=0
   ·go_wp2_with fail;have hr:=HRES.out;simp[h1,h2,h0]at hr;subst hr;go_ret
    first|exact⟨rfl,HB.out⟩|(refine⟨Av (λb=>Ending.returned (Value.bool b)) ?_,HB.out⟩;first|(simp;done)|(simp;omega))
   ·go_wp2_with fail;have hr:=HRES.out;simp[h1,h2,h0]at hr;subst hr;go_ret
    first|exact⟨rfl,HB.out⟩|(refine⟨Av (λb=>Ending.returned (Value.bool b)) ?_,HB.out⟩;first|(simp;done)|(simp;omega))
theorem Me(K:Nat->Prop)(x:NV)(n:PN)(w:World)(h:NodeAt K w x n):
 Calls prog 101 #[.agg x.cells.toArray] w λe w'=>e= .returned (.bool (rvalueP n))/\Below w.heap.size w w':=by
 have B:=E8 w x h.c.len;have HB:=Xba (below_new w (.cells x.cells.toArray 92));have hk:=h.k;have hp:=h.v;have hpb:=hp.2.1;have HL:=Xba hp.l;obtain⟨res,hres⟩:∃res,rvalueP n=res:=⟨_,rfl⟩;rw[hres];unfold rvalueP at hres;rw[HL.out,<-hk]at hres;have HRES:=Xba hres;clear hp h hk hres;go_enter func101,ntmps101;go_upto_region 1 with fail;refine gen_w (p:=λv=>Code.wp _ _ _ _ v) (q:=λv=>NBx w.heap.size v x/\Below w.heap.size w v) ⟨B,HB.out⟩ ?_;clear B HB;rintro v⟨B,hb⟩;have HB:=Xba hb;have c0:=B.c0;have c1:=B.c2;clear hb B;by_cases h2:x.k=1
 ·by_cases h0:x.vn=0
  ·go_wp2_with fail;have hr:=HRES.out;simp[h2,h0]at hr;subst hr;go_ret
   first|exact⟨rfl,HB.out⟩|(refine⟨Av (λb=>Ending.returned (Value.bool b)) ?_,HB.out⟩;first|(simp;done)|(simp;omega))
  ·by_cases h64:x.vn<=256
   ·go_wp2_with fail;have hr:=HRES.out;simp[h2,h0,h64]at hr;subst hr;go_ret
    first|exact⟨rfl,HB.out⟩|(refine⟨Av (λb=>Ending.returned (Value.bool b)) ?_,HB.out⟩;first|(simp;done)|(simp;omega))
   ·go_wp2_with fail;have hr:=HRES.out;simp[h2,h0,h64]at hr;subst hr;go_ret
    first|exact⟨rfl,HB.out⟩|(refine⟨Av (λb=>Ending.returned (Value.bool b)) ?_,HB.out⟩;first|(simp;done)|(simp;omega))
 ·by_cases h1:x.k=3
  ·by_cases h64:x.vn<=256
   ·go_wp2_with fail;have hr:=HRES.out;simp[h1,h64]at hr;subst hr;go_ret
    first|exact⟨rfl,HB.out⟩|(refine⟨Av (λb=>Ending.returned (Value.bool b)) ?_,HB.out⟩;first|(simp;done)|(simp;omega))
   ·go_wp2_with fail;have hr:=HRES.out;simp[h1,h64]at hr;subst hr;go_ret
    first|exact⟨rfl,HB.out⟩|(refine⟨Av (λb=>Ending.returned (Value.bool b)) ?_,HB.out⟩;first|(simp;done)|(simp;omega))
  ·by_cases h0:x.vn=0
   ·go_wp2_with fail;have hr:=HRES.out;simp[h1,h2,h0]at hr;subst hr;go_ret
    first|exact⟨rfl,HB.out⟩|(refine⟨Av (λb=>Ending.returned (Value.bool b)) ?_,HB.out⟩;first|(simp;done)|(simp;omega))
   ·go_wp2_with fail;have hr:=HRES.out;simp[h1,h2,h0]at hr;subst hr;go_ret
    first|exact⟨rfl,HB.out⟩|(refine⟨Av (λb=>Ending.returned (Value.bool b)) ?_,HB.out⟩;first|(simp;done)|(simp;omega))
theorem El:z32.length=32:=rfl
theorem GE(K:Nat->Prop)(x:RV)(r:PR)(w:World)(h:RefAt K w x r)(hd:r.i.length<32->DecSaid r.i):
 Calls prog 128 #[.agg x.cells.toArray] w λe w'=>e= .returned (.bool (rrefP KD r))/\Below w.heap.size w w':=by
 have B:=Jt w x h.len;have HB:=Xba (below_new w (.cells x.cells.toArray 62));have HK:=Xba (show x.n<32->∀v,Below w.heap.size w v->Calls prog 129 #[.agg x.cells.toArray] v λe w'=>e= .returned (.int .i64 (KD r.i))/\Below v.heap.size v w' from λhx v hv=>GT K x r v (h.go (Keep.below hv)) (hd (by rw[h.2.2.2.2.l];exact hx)));obtain⟨res,hres⟩:∃res,rrefP KD r=res:=⟨_,rfl⟩;obtain⟨kr,hkr⟩:∃kr,KD r.i=kr:=⟨_,rfl⟩;rw[hres];rw[hkr]at HK;unfold rrefP at hres;rw[hkr,<-h.1,<-h.2.1,h.2.2.2.2.l]at hres;have HRES:=Xba hres;have hl:=h.len;have hnb:=h.2.2.2.2.2.1;clear h hd hkr hres;go_enter func128,ntmps128;go_upto_region 1 with fail;refine gen_w (p:=λv=>Code.wp _ _ _ _ v) (q:=λv=>RBx w.heap.size v x/\Below w.heap.size w v) ⟨B,HB.out⟩ ?_;clear B HB;rintro v⟨B,hb⟩;have HB:=Xba hb;have HX:=Xba B;have HLX:=Xba hl;have c0:=B.c0;have c1:=B.c33;clear hb B hl;by_cases h0:x.k=0
 ·by_cases hz:x.d=z32
  ·have HQ:=Xba (show(!(x.d==z32))=false from by simp[hz]);have HZ:=Xba hz;clear hz;go_wp2_with (first|refine E0 rfl _ rfl w.heap.size 1 rfl x.d HLX.out HX.out.digest ?_|refine GA rfl _ _ rfl x.d z32 rfl rfl HLX.out El false HQ.out ?_|refine G9 rfl _ _ rfl x.d z32 rfl rfl HLX.out El false HQ.out ?_|refine Cz rfl _ rfl w.heap.size 0 rfl x HLX.out HX.out.all ?_);go_ret;refine⟨Av (λb=>Ending.returned (Value.bool b)) ?_,HB.out⟩;rw[<-HRES.out,Bg]
   first|(simp[h0,HZ.out];done)|(simp[h0,HZ.out];omega)
  ·have HQ:=Xba (show(!(x.d==z32))=true from by simp[hz]);have HZ:=Xba hz;clear hz;go_wp2_with (first|refine E0 rfl _ rfl w.heap.size 1 rfl x.d HLX.out HX.out.digest ?_|refine GA rfl _ _ rfl x.d z32 rfl rfl HLX.out El true HQ.out ?_|refine G9 rfl _ _ rfl x.d z32 rfl rfl HLX.out El true HQ.out ?_|refine Cz rfl _ rfl w.heap.size 0 rfl x HLX.out HX.out.all ?_);go_ret;refine⟨Av (λb=>Ending.returned (Value.bool b)) ?_,HB.out⟩;rw[<-HRES.out,Bg]
   first|(simp[h0,HZ.out];done)|(simp[h0,HZ.out];omega)
 ·by_cases h2:x.k=2
  ·go_wp2_with fail;go_ret;refine⟨Av (λb=>Ending.returned (Value.bool b)) ?_,HB.out⟩;rw[<-HRES.out,Bg]
   first|(simp[h2];done)|(simp[h2];omega)
  ·by_cases h1:x.k=1
   ·by_cases hz:x.d=z32
    ·have HQ:=Xba (show(x.d==z32)=true from by simp[hz]);have HZ:=Xba hz;clear hz;by_cases h32:x.n<32
     ·have hi32:(x.n:Int)<32:=(by omega);go_wp2_with (first|refine E0 rfl _ rfl w.heap.size 1 rfl x.d HLX.out HX.out.digest ?_|refine GA rfl _ _ rfl x.d z32 rfl rfl HLX.out El true HQ.out ?_|refine G9 rfl _ _ rfl x.d z32 rfl rfl HLX.out El true HQ.out ?_|refine Cz rfl _ rfl w.heap.size 0 rfl x HLX.out HX.out.all ?_);refine(HK.out h32 v HB.out).mono ?_;rintro e w1⟨rfl,hb1⟩;have HB1:=Xba (below_go HB.out hb1);clear hb1;go_wp2_with fail;go_ret;refine⟨Av (λb=>Ending.returned (Value.bool b)) ?_,HB1.out⟩;rw[<-HRES.out,Bg]
      first|(simp[h1,HZ.out,h32];done)|(simp[h1,HZ.out,h32];omega)
     ·have hi32:¬(x.n:Int)<32:=(by omega);go_wp2_with (first|refine E0 rfl _ rfl w.heap.size 1 rfl x.d HLX.out HX.out.digest ?_|refine GA rfl _ _ rfl x.d z32 rfl rfl HLX.out El true HQ.out ?_|refine G9 rfl _ _ rfl x.d z32 rfl rfl HLX.out El true HQ.out ?_|refine Cz rfl _ rfl w.heap.size 0 rfl x HLX.out HX.out.all ?_);go_ret;refine⟨Av (λb=>Ending.returned (Value.bool b)) ?_,HB.out⟩;rw[<-HRES.out,Bg]
      first|(simp[h1,HZ.out,h32];done)|(simp[h1,HZ.out,h32];omega)
    ·have HQ:=Xba (show(x.d==z32)=false from by simp[hz]);have HZ:=Xba hz;clear hz;go_wp2_with (first|refine E0 rfl _ rfl w.heap.size 1 rfl x.d HLX.out HX.out.digest ?_|refine GA rfl _ _ rfl x.d z32 rfl rfl HLX.out El false HQ.out ?_|refine G9 rfl _ _ rfl x.d z32 rfl rfl HLX.out El false HQ.out ?_|refine Cz rfl _ rfl w.heap.size 0 rfl x HLX.out HX.out.all ?_);go_ret;refine⟨Av (λb=>Ending.returned (Value.bool b)) ?_,HB.out⟩;rw[<-HRES.out,Bg]
     first|(simp[h1,HZ.out];done)|(simp[h1,HZ.out];omega)
   ·go_wp2_with fail;go_ret;refine⟨Av (λb=>Ending.returned (Value.bool b)) ?_,HB.out⟩;rw[<-HRES.out,Bg]
    first|(simp[h0,h2,h1];done)|(simp[h0,h2,h1];omega)
theorem Mf(K:Nat->Prop)(x:NV)(n:PN)(w:World)(h:NodeAt K w x n)(hd:n.c.i.length<32->DecSaid n.c.i):
 Calls prog 102 #[.agg x.cells.toArray] w λe w'=>e= .returned (.bool (rchildP KD n))/\Below w.heap.size w w':=by
 have B:=E8 w x h.c.len;have HB:=Xba (below_new w (.cells x.cells.toArray 92));obtain⟨q,hq⟩:∃q,rrefP KD n.c=q:=⟨_,rfl⟩
 have HR:=Xba (show∀v,Below w.heap.size w v->Calls prog 128 #[.agg x.c.cells.toArray] v λe w'=>e= .returned (.bool q)/\Below v.heap.size v w' from λv hv=>by
  rw[<-hq];exact GE K x.c n.c v (h.c.go (Keep.below hv)) hd)
 obtain⟨kr,hkr⟩:∃kr,KD n.c.i=kr:=⟨_,rfl⟩
 have HK:=Xba (show q=true->∀v,Below w.heap.size w v->Calls prog 129 #[.agg x.c.cells.toArray] v λe w'=>e= .returned (.int .i64 kr)/\Below v.heap.size v w' from λhqt v hv=>by
  rw[<-hkr];exact GT K x.c n.c v (h.c.go (Keep.below hv)) (hd (LI (hq.trans hqt))))
 obtain⟨res,hres⟩:∃res,rchildP KD n=res:=⟨_,rfl⟩;rw[hres];unfold rchildP at hres;rw[hkr,hq,<-h.k,<-h.c.1]at hres;have HRES:=Xba hres;have HLX:=Xba h.c.len;clear h hd hkr hres hq;go_enter func102,ntmps102;go_upto_region 1 with fail;refine gen_w (p:=λv=>Code.wp _ _ _ _ v) (q:=λv=>NBx w.heap.size v x/\Below w.heap.size w v) ⟨B,HB.out⟩ ?_;clear B HB;rintro v⟨B,hb⟩;have HB:=Xba hb;have HX:=Xba B;clear hb B;go_wp2_with (first|refine Cz rfl _ rfl w.heap.size 3 rfl x.c HLX.out HX.out.child ?_);refine(HR.out v HB.out).mono ?_;rintro e w1⟨rfl,hb1⟩;have B1:=HX.out.go hb1;have HB1:=Xba (below_go HB.out hb1);have c0:=B1.c0;have c3:=B1.c3;have HX1:=Xba B1;clear hb1 B1 HX HB;cases q with
 |false=>
  go_wp2_with fail;go_ret;refine⟨Av (λb=>Ending.returned (Value.bool b)) ?_,HB1.out⟩;rw[<-HRES.out,Bg]
  first|(simp;done)|(simp;omega)
 |true=>
  by_cases h2:x.k=2
  ·by_cases hc:x.c.k=2
   ·go_wp2_with fail;go_ret;refine⟨Av (λb=>Ending.returned (Value.bool b)) ?_,HB1.out⟩;rw[<-HRES.out,Bg]
    first|(simp[h2,hc];done)|(simp[h2,hc];omega)
   ·have hcq:(x.c.k==2)=false:=(by simp[hc]);go_wp2_with (first|refine Cz rfl _ rfl w.heap.size 3 rfl x.c HLX.out HX1.out.child ?_);refine(HK.out (by trivial) w1 HB1.out).mono ?_;rintro e w2⟨rfl,hb2⟩;have HB2:=Xba (below_go HB1.out hb2);clear hb2;go_wp2_with fail;go_ret;refine⟨Av (λb=>Ending.returned (Value.bool b)) ?_,HB2.out⟩;rw[<-HRES.out,Bg]
    first|(simp[h2,hc];done)|(simp[h2,hc];omega)
  ·go_wp2_with fail;go_ret;refine⟨Av (λb=>Ending.returned (Value.bool b)) ?_,HB1.out⟩;rw[<-HRES.out,Bg]
   first|(simp[h2];done)|(simp[h2];omega)
theorem Is:∀(l:List PR)(r:PR),ways (l++[r])=ways l+(if r.k≠0 then 1 else 0)
 |[],r=>by simp[ways]
 |a::l,r=>by rw[Cb,ways,ways,Is l r];omega
theorem GF:∀l:List PR,ways l<=l.length
 |[]=>by simp[ways]
 |r::l=>by
  have:=GF l;rw[ways,AS];split<;>omega
theorem DM{ks:List PR}{j:Nat}{r:PR}(h:ks[j]?=some r):ks.take (j+1)=ks.take j++[r]:=by
 rw[BQ,h];rfl
theorem Mg(w1:World)(y:RV)(hl:y.d.length=32)(C:Array Value):RBx w1.heap.size ((w1.alloc (.cells C 62)).setRow w1.heap.size y.cells.toArray) y:=⟨AA _ _ _ _ _ _ (Ai w1 _),hl⟩
theorem WD:(rz.cells.toArray:Array Value).size=34:=rfl
theorem MN(K:Nat->Prop)(x:NV)(n:PN)(w:World)(h:NodeAt K w x n)(hd:∀r∈n.ks,r.i.length<32->DecSaid r.i):
 Calls prog 103 #[.agg x.cells.toArray] w λe w'=>e= .returned (.bool (rkidsP KD n))/\Below w.heap.size w w':=by
 have B:=E8 w x h.c.len;have HB:=Xba (below_new w (.cells x.cells.toArray 92));have HKS:=Xba h.ks;have hm:=h.m;have HKL:=Xba hm.1;obtain⟨-,hm2,hm3,hm4,hm5⟩:=hm;unfold maxLen at hm3;have HM5:=Xba hm5;obtain⟨res,hres⟩:∃res,rkidsP KD n=res:=⟨_,rfl⟩;rw[hres];unfold rkidsP at hres;rw[<-h.k,<-HKL.out,h.v.l]at hres;have HRES:=Xba hres;have hvn:=h.v.2.1;have HD:=Xba hd;clear h hd hres hm5;go_enter func103,ntmps103;go_upto_region 1 with fail;refine gen_w (p:=λv=>Code.wp _ _ _ _ v) (q:=λv=>NBx w.heap.size v x/\Below w.heap.size w v) ⟨B,HB.out⟩ ?_;clear B HB;rintro v⟨B,hb⟩;have HB:=Xba hb;have c0:=B.c0;have c2:=B.c2;have c37:=B.c37;obtain⟨ka,hka0⟩:∃ka,x.ka=ka:=⟨_,rfl⟩;rw[hka0]at c37 HKS HM5;clear hb B hka0;by_cases h3:x.k=3
 ·by_cases h16:x.kn=16
  ·obtain⟨wy,hwy⟩:∃wy:Nat,(if 0<x.vn then 1 else 0)=wy:=⟨_,rfl⟩;have HWY:=Xba hwy;rw[h16]at HKL c37 hm2 hm4;by_cases hv:0<x.vn
   ·have e1:wy=1:=(by rw[<-hwy,Af hv]);have hvi:(x.vn:Int)>0:=(by omega);subst e1;clear hwy;go_wp2_with fail
    go_loopw [3,26] (λs3 s26 v=>∃j:Nat,j<=16/\s26= .int .i64 j/\s3= .int .i64 ((1+ways (n.ks.take j):Nat):Int)/\(∀r∈n.ks.take j,rrefP KD r=true)/\Below w.heap.size w v) (λ_ s26 _=>16-(intOf s26).toNat)
    case atStart=>exact⟨0,by omega,rfl,rfl,λr hr=>by simp at hr,HB.out⟩
    case round=>
     obtain⟨j,hj,rfl,rfl,hall,hbv⟩:=hrel;have HALL:=Xba hall;have HBV:=Xba hbv;clear hall hbv;by_cases hlt:j<16
     ·have hji:(j:Int)<16:=(by omega);obtain⟨r,hr⟩:∃r,n.ks[j]?=some r:=⟨_,Ac (by have:=HKL.out;omega)⟩;obtain⟨g,off,y,hka,_,hrg,hy⟩:=HKS.out j r hr;have HRG:=Xba (ED hrg (λhl=>HBV.out.block g hl));have HYL:=Xba hy.len;have HI:=Xba (show(prog.info? 62).map (·.size)=some y.cells.toArray.size from by rw[FP,Bb,RV.len HYL.out]);have HS:=Xba (show(rz.cells.toArray:Array Value).size=y.cells.toArray.size from by rw[WD,Bb,RV.len HYL.out]);have HO:=Xba (Am y.one);obtain⟨q,hq⟩:∃q,rrefP KD r=q:=⟨_,rfl⟩
      have HRR:=Xba (show∀u,Below w.heap.size w u->Calls prog 128 #[.agg y.cells.toArray] u λe w'=>e= .returned (.bool q)/\Below u.heap.size u w' from λu hu=>by
       rw[<-hq];exact GE K y r u (hy.go (Keep.below hu)) (HD.out r (AK hr)))
      have HQ:=Xba hq;have HR:=Xba hr;have HYK:=Xba hy.1;have hwl:ways (n.ks.take j)<=j:=(by have:=GF (n.ks.take j);rw[Ao]at this;omega);have HW:=Xba (show ways (n.ks.take (j+1))=ways (n.ks.take j)+(if y.k≠0 then 1 else 0)from by rw[DM hr,Is,hy.1]);clear hrg hy hq hr;subst hka;go_upto_region 11 with(first|refine Cz rfl _ rfl g (off+j*34) rfl y HYL.out HRG.out ?_|refine A4 rfl 62 _ _ rfl _ y.cells.toArray rfl rfl 62 _ (Ai _ _) HI.out HS.out HO.out ?_);refine gen_w (p:=λv=>Code.wp _ _ _ _ v) (q:=λv=>RBx wr.heap.size v y/\Below w.heap.size w v) ⟨Mg _ _ HYL.out _,Below.setRow (HBV.out.alloc HBV.out.size _) HBV.out.size _⟩ ?_;rintro v2⟨B2,hb2⟩;have HX2:=Xba B2;have HB2:=Xba hb2;clear B2 hb2;go_wp2_with (first|refine Cz rfl _ rfl wr.heap.size 0 rfl y HYL.out HX2.out.all ?_);refine(HRR.out v2 HB2.out).mono ?_;rintro e w3⟨rfl,hb3⟩;have B3:=HX2.out.go hb3;have c03:=B3.c0;have HB3:=Xba (below_go HB2.out hb3);clear hb3 B3;cases q with
      |false=>
       go_wp2_with fail;go_ret;refine⟨Av (λb=>Ending.returned (Value.bool b)) ?_,HB3.out⟩;rw[<-HRES.out,h3,h16,Ad (by decide),Ad (by decide)];have hno:n.ks.all (rrefP KD)=false:=by
        rw[List.all_eq_false];exact⟨r,AK HR.out,by rw[HQ.out];simp⟩
       rw[hno];rfl
      |true=>
       have HALL2:=Xba (show∀r∈n.ks.take (j+1),rrefP KD r=true from λr' hr'=>by
        rw[DM HR.out]at hr';rcases AM.1 hr' with h|h
        ·exact HALL.out r' h
        ·simp only[Az,Cc,Ec]at h;rw[h];exact HQ.out)
       by_cases hk0:y.k=0
       ·have hw2:=HW.out;rw[Ad (by simp[hk0])]at hw2;have HW2:=Xba hw2;clear hw2;go_wp2_with fail
        go_roundw
        case rel=>exact⟨j+1,by omega,by simp,by rw[HW2.out];simp,HALL2.out,HB3.out⟩
        case measure=>simp[intOf];omega
       ·have hw2:=HW.out;rw[Af hk0]at hw2;have HW2:=Xba hw2;clear hw2;go_wp2_with fail
        go_roundw
        case rel=>exact⟨j+1,by omega,by simp,by rw[HW2.out];first|(simp;done)|(simp;omega),HALL2.out,HB3.out⟩
        case measure=>simp[intOf];omega
     ·have hji:¬(j:Int)<16:=(by omega);have e16:n.ks.take j=n.ks:=A5 (by have:=HKL.out;omega);rw[e16]at HALL⊢;have hyes:n.ks.all (rrefP KD)=true:=List.all_eq_true.2 HALL.out;have HYES:=Xba hyes;have hwl:ways n.ks<=16:=(by have:=GF n.ks;have:=HKL.out;omega);clear hyes e16;go_wp2_with fail;go_ret;refine⟨Av (λb=>Ending.returned (Value.bool b)) ?_,HBV.out⟩;rw[<-HRES.out,h3,h16,Ad (by decide),Ad (by decide),HYES.out,E7,Bg,HWY.out];simp
      try omega
   ·have e1:wy=0:=(by rw[<-hwy,Ad hv]);have hvi:¬(x.vn:Int)>0:=(by omega);subst e1;clear hwy;go_wp2_with fail
    go_loopw [3,26] (λs3 s26 v=>∃j:Nat,j<=16/\s26= .int .i64 j/\s3= .int .i64 ((0+ways (n.ks.take j):Nat):Int)/\(∀r∈n.ks.take j,rrefP KD r=true)/\Below w.heap.size w v) (λ_ s26 _=>16-(intOf s26).toNat)
    case atStart=>exact⟨0,by omega,rfl,rfl,λr hr=>by simp at hr,HB.out⟩
    case round=>
     obtain⟨j,hj,rfl,rfl,hall,hbv⟩:=hrel;have HALL:=Xba hall;have HBV:=Xba hbv;clear hall hbv;by_cases hlt:j<16
     ·have hji:(j:Int)<16:=(by omega);obtain⟨r,hr⟩:∃r,n.ks[j]?=some r:=⟨_,Ac (by have:=HKL.out;omega)⟩;obtain⟨g,off,y,hka,_,hrg,hy⟩:=HKS.out j r hr;have HRG:=Xba (ED hrg (λhl=>HBV.out.block g hl));have HYL:=Xba hy.len;have HI:=Xba (show(prog.info? 62).map (·.size)=some y.cells.toArray.size from by rw[FP,Bb,RV.len HYL.out]);have HS:=Xba (show(rz.cells.toArray:Array Value).size=y.cells.toArray.size from by rw[WD,Bb,RV.len HYL.out]);have HO:=Xba (Am y.one);obtain⟨q,hq⟩:∃q,rrefP KD r=q:=⟨_,rfl⟩
      have HRR:=Xba (show∀u,Below w.heap.size w u->Calls prog 128 #[.agg y.cells.toArray] u λe w'=>e= .returned (.bool q)/\Below u.heap.size u w' from λu hu=>by
       rw[<-hq];exact GE K y r u (hy.go (Keep.below hu)) (HD.out r (AK hr)))
      have HQ:=Xba hq;have HR:=Xba hr;have HYK:=Xba hy.1;have hwl:ways (n.ks.take j)<=j:=(by have:=GF (n.ks.take j);rw[Ao]at this;omega);have HW:=Xba (show ways (n.ks.take (j+1))=ways (n.ks.take j)+(if y.k≠0 then 1 else 0)from by rw[DM hr,Is,hy.1]);clear hrg hy hq hr;subst hka;go_upto_region 11 with(first|refine Cz rfl _ rfl g (off+j*34) rfl y HYL.out HRG.out ?_|refine A4 rfl 62 _ _ rfl _ y.cells.toArray rfl rfl 62 _ (Ai _ _) HI.out HS.out HO.out ?_);refine gen_w (p:=λv=>Code.wp _ _ _ _ v) (q:=λv=>RBx wr.heap.size v y/\Below w.heap.size w v) ⟨Mg _ _ HYL.out _,Below.setRow (HBV.out.alloc HBV.out.size _) HBV.out.size _⟩ ?_;rintro v2⟨B2,hb2⟩;have HX2:=Xba B2;have HB2:=Xba hb2;clear B2 hb2;go_wp2_with (first|refine Cz rfl _ rfl wr.heap.size 0 rfl y HYL.out HX2.out.all ?_);refine(HRR.out v2 HB2.out).mono ?_;rintro e w3⟨rfl,hb3⟩;have B3:=HX2.out.go hb3;have c03:=B3.c0;have HB3:=Xba (below_go HB2.out hb3);clear hb3 B3;cases q with
      |false=>
       go_wp2_with fail;go_ret;refine⟨Av (λb=>Ending.returned (Value.bool b)) ?_,HB3.out⟩;rw[<-HRES.out,h3,h16,Ad (by decide),Ad (by decide)];have hno:n.ks.all (rrefP KD)=false:=by
        rw[List.all_eq_false];exact⟨r,AK HR.out,by rw[HQ.out];simp⟩
       rw[hno];rfl
      |true=>
       have HALL2:=Xba (show∀r∈n.ks.take (j+1),rrefP KD r=true from λr' hr'=>by
        rw[DM HR.out]at hr';rcases AM.1 hr' with h|h
        ·exact HALL.out r' h
        ·simp only[Az,Cc,Ec]at h;rw[h];exact HQ.out)
       by_cases hk0:y.k=0
       ·have hw2:=HW.out;rw[Ad (by simp[hk0])]at hw2;have HW2:=Xba hw2;clear hw2;go_wp2_with fail
        go_roundw
        case rel=>exact⟨j+1,by omega,by simp,by rw[HW2.out];simp,HALL2.out,HB3.out⟩
        case measure=>simp[intOf];omega
       ·have hw2:=HW.out;rw[Af hk0]at hw2;have HW2:=Xba hw2;clear hw2;go_wp2_with fail
        go_roundw
        case rel=>exact⟨j+1,by omega,by simp,by rw[HW2.out];first|(simp;done)|(simp;omega),HALL2.out,HB3.out⟩
        case measure=>simp[intOf];omega
     ·have hji:¬(j:Int)<16:=(by omega);have e16:n.ks.take j=n.ks:=A5 (by have:=HKL.out;omega);rw[e16]at HALL⊢;have hyes:n.ks.all (rrefP KD)=true:=List.all_eq_true.2 HALL.out;have HYES:=Xba hyes;have hwl:ways n.ks<=16:=(by have:=GF n.ks;have:=HKL.out;omega);clear hyes e16;go_wp2_with fail;go_ret;refine⟨Av (λb=>Ending.returned (Value.bool b)) ?_,HBV.out⟩;rw[<-HRES.out,h3,h16,Ad (by decide),Ad (by decide),HYES.out,E7,Bg,HWY.out];simp
      try omega
  ·go_wp2_with fail;go_ret;refine⟨Av (λb=>Ending.returned (Value.bool b)) ?_,HB.out⟩;rw[<-HRES.out,Bg]
   first|(simp[h3,h16];done)|(simp[h3,h16];omega)
 ·go_wp2_with fail;go_ret;refine⟨Av (λb=>Ending.returned (Value.bool b)) ?_,HB.out⟩;rw[<-HRES.out,Bg]
  first|(simp[h3];done)|(simp[h3];omega)
theorem SP(K:Nat->Prop)(x:NV)(n:PN)(w:World)(h:NodeAt K w x n)(hd:∀r,(r=n.c∨r∈n.ks)->r.i.length<32->DecSaid r.i):
 Calls prog 71 #[.agg x.cells.toArray] w λe w'=>e= .returned (.bool (NR n))/\Below w.heap.size w w':=by
 have B:=E8 w x h.c.len;have HB:=Xba (below_new w (.cells x.cells.toArray 92));obtain⟨q0,hq0⟩:∃q,knownP n=q:=⟨_,rfl⟩;obtain⟨q1,hq1⟩:∃q,rpathP n=q:=⟨_,rfl⟩;obtain⟨q2,hq2⟩:∃q,rvalueP n=q:=⟨_,rfl⟩;obtain⟨q3,hq3⟩:∃q,rchildP KD n=q:=⟨_,rfl⟩;obtain⟨q4,hq4⟩:∃q,rkidsP KD n=q:=⟨_,rfl⟩
 have H1:=Xba (show∀v,Below w.heap.size w v->Calls prog 100 #[.agg x.cells.toArray] v λe w'=>e= .returned (.bool q1)/\Below v.heap.size v w' from λv hv=>by
  rw[<-hq1];exact MM K x n v (h.go (Keep.below hv)))
 have H2:=Xba (show∀v,Below w.heap.size w v->Calls prog 101 #[.agg x.cells.toArray] v λe w'=>e= .returned (.bool q2)/\Below v.heap.size v w' from λv hv=>by
  rw[<-hq2];exact Me K x n v (h.go (Keep.below hv)))
 have H3:=Xba (show∀v,Below w.heap.size w v->Calls prog 102 #[.agg x.cells.toArray] v λe w'=>e= .returned (.bool q3)/\Below v.heap.size v w' from λv hv=>by
  rw[<-hq3];exact Mf K x n v (h.go (Keep.below hv)) (hd _ (.inl rfl)))
 have H4:=Xba (show∀v,Below w.heap.size w v->Calls prog 103 #[.agg x.cells.toArray] v λe w'=>e= .returned (.bool q4)/\Below v.heap.size v w' from λv hv=>by
  rw[<-hq4];exact MN K x n v (h.go (Keep.below hv)) (λr hr=>hd r (.inr hr)))
 have HNR:=Xba (show NR n=(q0&&q1&&q2&&q3&&q4)from by unfold NR nright;rw[hq0,hq1,hq2,hq3,hq4]);rw[HNR.out];have HQ0:=Xba (show(decide (x.k=1)||decide (x.k=2)||decide (x.k=3))=q0 from by rw[<-hq0,h.k];rfl);clear hq0 hq1 hq2 hq3 hq4 h hd HNR;go_enter func71,ntmps71;go_upto_region 1 with fail;refine gen_w (p:=λv=>Code.wp _ _ _ _ v) (q:=λv=>NBx w.heap.size v x/\Below w.heap.size w v) ⟨B,HB.out⟩ ?_;clear B HB;rintro v⟨B,hb⟩;have HB:=Xba hb;have HX:=Xba B;have c0:=B.c0;clear hb B
 go_cut [3]from 3 to 16 (λs3 u=>s3= .bool q0/\u=v)
 case first=>
  by_cases k1:x.k=1
  ·have hq:=HQ0.out;simp[k1]at hq;subst hq;go_wp2_with fail
   go_meet
   exact⟨rfl,rfl⟩
  ·by_cases k2:x.k=2
   ·have hq:=HQ0.out;simp[k2]at hq;subst hq;go_wp2_with fail
    go_meet
    exact⟨rfl,rfl⟩
   ·by_cases k3:x.k=3
    ·have hq:=HQ0.out;simp[k3]at hq;subst hq;go_wp2_with fail
     go_meet
     exact⟨rfl,rfl⟩
    ·have hq:=HQ0.out;simp[k1,k2,k3]at hq;subst hq;have e1:(x.k==1)=false:=(by simp[k1]);have e2:(x.k==2)=false:=(by simp[k2]);have e3:(x.k==3)=false:=(by simp[k3]);go_wp2_with fail
     go_meet
     exact⟨rfl,rfl⟩
 case rest=>
  obtain⟨rfl,rfl⟩:=hcut;cases q0 with
  |false=>
   go_wp2_with fail;go_ret;exact⟨rfl,HB.out⟩
  |true=>
   go_wp2_with (first|refine CG rfl _ rfl w.heap.size rfl x HX.out ?_);refine(H1.out _ HB.out).mono ?_;rintro e w1⟨rfl,hb1⟩;have HX1:=Xba (HX.out.go hb1);have HB1:=Xba (below_go HB.out hb1);clear hb1;cases q1 with
   |false=>
    go_wp2_with fail;go_ret;exact⟨rfl,HB1.out⟩
   |true=>
    go_wp2_with (first|refine CG rfl _ rfl w.heap.size rfl x HX1.out ?_);refine(H2.out w1 HB1.out).mono ?_;rintro e w2⟨rfl,hb2⟩;have HX2:=Xba (HX1.out.go hb2);have HB2:=Xba (below_go HB1.out hb2);clear hb2;cases q2 with
    |false=>
     go_wp2_with fail;go_ret;exact⟨rfl,HB2.out⟩
    |true=>
     go_wp2_with (first|refine CG rfl _ rfl w.heap.size rfl x HX2.out ?_);refine(H3.out w2 HB2.out).mono ?_;rintro e w3⟨rfl,hb3⟩;have HX3:=Xba (HX2.out.go hb3);have HB3:=Xba (below_go HB2.out hb3);clear hb3;cases q3 with
     |false=>
      go_wp2_with fail;go_ret;exact⟨rfl,HB3.out⟩
     |true=>
      go_wp2_with (first|refine CG rfl _ rfl w.heap.size rfl x HX3.out ?_);refine(H4.out w3 HB3.out).mono ?_;rintro e w4⟨rfl,hb4⟩;have HX4:=Xba (HX3.out.go hb4);have HB4:=Xba (below_go HB3.out hb4);clear hb4;go_wp2_with fail;go_ret;exact⟨rfl,HB4.out⟩
theorem Nz{b:List Int}{t:T}(hb:isB b)(h:decP b= .ok t):∀u∈t.its,u.bs.length<=16777216:=λu hu=>by
 obtain⟨h1,h2,h3⟩:=G7 hb h;have hbo:=(Je h2).2.1;have l1:=Fn u;have l2:=Fo hu;have l3:(bodyOf t).length=t.bs.length+(encs t.its).length:=by unfold bodyOf;rw[Ab]
 have l4:(bodyOf u).length=u.bs.length+(encs u.its).length:=by unfold bodyOf;rw[Ab]
 omega
structure Dd(w v:World):Prop where
 row:v.heap[w.heap.size]?=some (.cells nz.cells.toArray 92)
 bel:Below w.heap.size w v
 sz:w.heap.size+1<=v.heap.size
theorem Dd.go{v:World}(h:Dd w v)(hb:Below v.heap.size v v'):Dd w v':=⟨Below.row hb h.row,below_go h.bel hb,Al h.sz hb.size⟩
theorem WE(w:World):Dd w (w.alloc (.cells nz.cells.toArray 92)):=⟨Ai _ _,below_new _ _,by simp⟩
theorem PC(b:List Int)(hr:isB b->∀i,i.length<b.length->i.length<32->isB i->DecSaid i):DecSaid b:=by
 intro a n c w hag hn;have hbB:isB b:=hag.b;have HREC:=Xba (hr hbB);have HAG:=Xba hag;have HBB:=Xba hbB;obtain⟨res,hres⟩:∃res,ND b=res:=⟨_,rfl⟩;rw[hres];rw[Sv hbB]at hres;have HRES:=Xba hres;have HDD0:=Xba (WE w);clear hag hr hres hbB;go_enter func47,ntmps47;go_upto_region 1 with fail;refine gen_w (p:=λv=>Code.wp _ _ _ _ v) (q:=λv=>Dd w v) HDD0.out ?_;clear HDD0;intro v D0;have HD0:=Xba D0;have HCD:=Xba (LF a n c b v (HAG.out.at D0.bel) hn);clear D0;go_wp2_with fail;refine HCD.out.mono ?_;intro e w1 hp;obtain⟨hb1,hp⟩:=hp;have HD1:=Xba (HD0.out.go hb1);have HV0:=Xba HD0.out.sz;cases hq:decP b with
 |bad er=>
  rw[hq]at hp;have hr:=HRES.out;rw[hq]at hr;have hr:none=res:=hr;subst hr;obtain⟨rfl,her⟩:=hp;have hee:((er:Int) !=0)=true:=by rw[bne_iff_ne];omega
  clear hb1 hq her;go_upto_region 2 with fail;refine gen_w (p:=λv=>Code.wp _ _ _ _ v) (q:=λv=>Dd w v) (HD1.out.go (below_new w1 _)) ?_;intro v2 D2;have HD2:=Xba D2;clear D2;go_wp2_with (first|refine wpList_store_row rfl 92 _ _ rfl _ nz.cells.toArray rfl rfl 92 _ HD2.out.row (CL rfl) (Cv rfl) (all_oneCell_toArray (NV.one _)) ?_);refine bodyPost_ret (BP results47 _ _ w.heap.size nz rfl rfl (setRow_heap _ _ _ _ _ _ HD2.out.row)) rfl ?_;exact⟨Below.setRow HD2.out.bel (Nat.le_refl _) _,rfl⟩
 |ok t=>
  rw[hq]at hp;have hr:=HRES.out;rw[hq]at hr;obtain⟨y,rfl,hy⟩:=hp;have HLY:=Xba (show LiesP (λb=>w.heap.size+1<=b) w1 t y from Bz (λb hb hlt=>⟨rfl,by have:=HV0.out;omega⟩) _ _ hy)
  have hr:(match nodeOfP t with
   |none=>none
   |some n=>if NR n=true then some n else none)=res:=hr
  have HR:=Xba hr;have HSM:=Xba (Nz HBB.out hq);have HSB:=Xba (λn hn=>LJ (n:=n) HBB.out hq hn);clear hb1 hq hy hr HRES;go_upto_region 2 with fail;refine gen_w (p:=λv=>Code.wp _ _ _ _ v) (q:=λv=>Dd w v/\B1 w1.heap.size v y/\LiesP (λb=>w.heap.size+1<=b) v t y) ⟨HD1.out.go (below_new w1 _),E5 w1 y,Bz (λb hb hlt=>⟨heap_alloc_old _ _ hlt,hb⟩) _ _ HLY.out⟩ ?_;rintro v2⟨D2,B2,L2⟩;have c0:=B2.c0;have c1:=B2.c1;have c2:=B2.c2;have HD2:=Xba D2;have HNO:=Xba (QR (w.heap.size+1) t y v2 L2 D2.sz HSM.out);clear D2 B2 L2;go_wp2_with fail;refine HNO.out.mono ?_;intro e w3 hp;obtain⟨hb3,hp⟩:=hp;have HD3:=Xba (HD2.out.go hb3);have hr:=HR.out;cases hq:nodeOfP t with
  |none=>
   rw[hq]at hp hr;have hr:none=res:=hr;subst hr;obtain⟨y',hl',rfl⟩:=hp;have HL:=Xba hl';clear hb3 hq hl' c0 c1 c2;go_upto_region 5 with(first|refine wpList_store_row rfl 92 _ _ rfl _ y'.cells.toArray rfl rfl 92 _ (heap_alloc_new _ _) (CL HL.out) (Cv HL.out) (all_oneCell_toArray (NV.one _)) ?_);refine gen_w (p:=λv=>Code.wp _ _ _ _ v) (q:=λv=>Dd w v) (HD3.out.go (Below.setRow (below_new w3 _) (Nat.le_refl _) _)) ?_;intro v4 D4;have HD4:=Xba D4;clear D4;go_wp2_with (first|refine wpList_store_row rfl 92 _ _ rfl _ nz.cells.toArray rfl rfl 92 _ HD4.out.row (CL rfl) (Cv rfl) (all_oneCell_toArray (NV.one _)) ?_);refine bodyPost_ret (BP results47 _ _ w.heap.size nz rfl rfl (setRow_heap _ _ _ _ _ _ HD4.out.row)) rfl ?_;exact⟨Below.setRow HD4.out.bel (Nat.le_refl _) _,rfl⟩
  |some nn=>
   rw[hq]at hp hr;obtain⟨y',rfl,hna⟩:=hp;have hr:(if NR nn=true then some nn else none)=res:=hr;have HL:=Xba hna.c.len;have HNA:=Xba hna
   have HRI:=Xba (show∀u,NodeAt (λ_=>True) u y' nn->Calls prog 71 #[.agg y'.cells.toArray] u λe w'=>e= .returned (.bool (NR nn))/\Below u.heap.size u w' from λu hu=>SP _ y' nn u hu (λr hrr h32=>by
    obtain⟨s1,s2⟩:=HSB.out nn hq r hrr;exact HREC.out r.i s1 h32 s2))
   obtain⟨q,hqq⟩:∃q,NR nn=q:=⟨_,rfl⟩;rw[hqq]at hr HRI;have HR2:=Xba hr;clear hb3 hq hna c0 c1 c2 hr hqq;go_upto_region 5 with(first|refine wpList_store_row rfl 92 _ _ rfl _ y'.cells.toArray rfl rfl 92 _ (heap_alloc_new _ _) (CL HL.out) (Cv HL.out) (all_oneCell_toArray (NV.one _)) ?_);refine gen_w (p:=λv=>Code.wp _ _ _ _ v) (q:=λv=>Dd w v/\NBx w3.heap.size v y'/\Below w3.heap.size w3 v) ⟨HD3.out.go (Below.setRow (below_new w3 _) (Nat.le_refl _) _),⟨setRow_heap _ _ _ _ _ _ (heap_alloc_new _ _),HL.out⟩,Below.setRow (below_new w3 _) (Nat.le_refl _) _⟩ ?_;rintro v4⟨D4,N4,b4⟩;have HD4:=Xba D4;have HN4:=Xba N4;have HB4:=Xba b4;clear D4 N4 b4;go_wp2_with (first|refine CG rfl _ rfl w3.heap.size rfl y' HN4.out ?_);refine(HRI.out v4 (HNA.out.go (Keep.any HB4.out))).mono ?_;rintro e w5⟨rfl,hb5⟩;have HD5:=Xba (HD4.out.go hb5);have HN5:=Xba (HN4.out.go hb5);have HB5:=Xba (below_go HB4.out hb5);clear hb5;have hr:=HR2.out;cases q with
   |false=>
    rw[if_neg (by simp)]at hr;subst hr;go_wp2_with (first|refine wpList_store_row rfl 92 _ _ rfl _ nz.cells.toArray rfl rfl 92 _ HD5.out.row (CL rfl) (Cv rfl) (all_oneCell_toArray (NV.one _)) ?_);refine bodyPost_ret (BP results47 _ _ w.heap.size nz rfl rfl (setRow_heap _ _ _ _ _ _ HD5.out.row)) rfl ?_;exact⟨Below.setRow HD5.out.bel (Nat.le_refl _) _,rfl⟩
   |true=>
    rw[if_pos rfl]at hr;subst hr;go_wp2_with (first|refine CG rfl _ rfl w3.heap.size rfl y' HN5.out ?_|refine wpList_store_row rfl 92 _ _ rfl _ y'.cells.toArray rfl rfl 92 _ HD5.out.row (CL HL.out) (Cv HL.out) (all_oneCell_toArray (NV.one _)) ?_);refine bodyPost_ret (BP results47 _ _ w.heap.size y' HL.out rfl (setRow_heap _ _ _ _ _ _ HD5.out.row)) rfl ?_;refine⟨Below.setRow HD5.out.bel (Nat.le_refl _) _,y',rfl,HNA.out.go λk hK hk=>?_⟩;have e:(w5.setRow w.heap.size y'.cells.toArray).heap[k]?=w3.heap[k]?:=(setRow_other _ _ _ _ (by have:=hK.1;omega)).trans (HB5.out.block k hk);exact⟨e,by have:=hK.1;omega,λo=>(World.frozen?_of_block (w:=w3) e).trans (hK.2 o)⟩
theorem QS:∀(L:Nat)(b:List Int),b.length<=L->DecSaid b:=by
 intro L
 induction L using Nat.strongRecOn with
 |_ L ih=>
  intro b hL;exact PC b λ_ i h1 _ _=>ih i.length (by omega) i (Aa _)
theorem PD(b:List Int):DecSaid b:=QS b.length b (Aa _)
theorem QT(K:Nat->Prop)(x:NV)(n:PN)(w:World)(h:NodeAt K w x n):
 Calls prog 71 #[.agg x.cells.toArray] w λe w'=>e= .returned (.bool (NR n))/\Below w.heap.size w w':=SP K x n w h λr _ _=>PD r.i
theorem V.ext{a b:V}(h0:Value.bool a.l= .bool b.l)(h1:Value.slice a.ba a.bn a.bc= .slice b.ba b.bn b.bc)(h2:Value.slice a.ia a.m a.ic= .slice b.ia b.m b.ic):a=b:=by
 cases a;cases b;cases h0;cases h1;cases h2;rfl
theorem GZ{P:Nat->Prop}{w:World}{g off:Nat}(hP:P g):∀{ts:List T}{k:Nat},(∀(i:Nat)(t:T),ts[i]?=some t->∃y:V,w.cell? ⟨g,off+(k+i)*3,none⟩=some (.bool y.l)/\w.cell? ⟨g,off+(k+i)*3+1,none⟩=some (.slice y.ba y.bn y.bc)/\w.cell? ⟨g,off+(k+i)*3+2,none⟩=some (.slice y.ia y.m y.ic)/\LiesP P w t y)->LiesPAll P w ts (some ⟨g,off,none⟩) k
 |[],_,_=>Du
 |t::r,k,h=>by
  obtain⟨y,h0,h1,h2,h3⟩:=h 0 t rfl;refine liesPAll_cons.2 ⟨⟨g,off,y,⟨rfl,hP⟩,h0,h1,h2,h3⟩,GZ hP λi u hu=>?_⟩;obtain⟨z,z0,z1,z2,z3⟩:=h (i+1) u (by simpa using hu);rw[show k+(i+1)=k+1+i from by omega]at z0 z1 z2;exact⟨z,z0,z1,z2,z3⟩
theorem JY(P:Nat->Prop)(a:Option Addr)(m c:Nat)(ts:List T)(hm:m=ts.length/\m<=c/\c<=maxLen/\m<=1000)(w:World)(hall:LiesPAll P w ts a 0)(hnil:a=none->c=0)(hP:∀b,w.heap.size<=b->P b):
 Calls prog 118 #[.slice a m c] w λe w'=>(∃y:V,e= .returned (.agg #[.bool y.l, .slice y.ba y.bn y.bc, .slice y.ia y.m y.ic])/\LiesP P w' (.mk true [] ts) y)/\Below w.heap.size w w':=by
 have hall0:LiesAll w ts a 0:=Gg (λt _ x h=>CX t x h) hall;refine(VT a m c ts ⟨hm.1,hm.2.1,hm.2.2.1,by omega⟩ w hall0 (by omega) hnil).mono ?_;rintro e w'⟨ys,hyl,rfl,hrow,hat,hb⟩;refine⟨⟨⟨true,none,0,0,some ⟨w.heap.size+1,0,none⟩,m,m⟩,rfl,?_⟩,hb⟩;refine liesP_eq.2 ⟨⟨rfl,⟨.inl ⟨rfl,rfl⟩,λ_=>⟨rfl,rfl⟩,rfl,λx hx=>by cases hx⟩,hm.1,Aa _,by show m<=maxLen;unfold maxLen;omega,⟨Ay _,by show m<=_;omega⟩,λg off e=>by cases e⟩,GZ (hP _ (by omega)) λi t ht=>?_⟩;have hi:i<ys.length:=by rw[hyl,hm.1];exact(Aw.1 ht).1
 obtain⟨g,off,u,A⟩:=hat i ys[i] (Ac hi);obtain⟨g',off',y',A'⟩:=DH hall i t ht;rw[AD]at A';have e:=A.ha;rw[A'.ha]at e;cases e;have hy:ys[i]=y':=V.ext (CD (A.c0.symm.trans A'.c0)) (CD (A.c1.symm.trans A'.c1)) (CD (A.c2.symm.trans A'.c2));have hc:∀j u,(V.cells ys[i])[j]?=some u->w'.cell? ⟨w.heap.size+1,i*3+j,none⟩=some u:=λj u hu=>by
  rw[Ae _ _ _ _ _ _ hrow,List.getElem?_toArray];have e:ys=ys.take i++ys[i]::ys.drop (i+1):=by rw[<-Bq hi,Bf]
  have hl:(ys.take i).length=i:=by rw[Ao];omega
  have hf:=Fk (ys.take i) ys[i] (ys.drop (i+1)) j u hu;rw[hl,<-e]at hf;exact hf
 refine⟨ys[i],?_,?_,?_,?_⟩
 ·have:=hc 0 _ rfl;rwa [show i*3+0=0+(0+i)*3 from by omega]at this
 ·have:=hc 1 _ rfl;rwa [show i*3+1=0+(0+i)*3+1 from by omega]at this
 ·have:=hc 2 _ rfl;rwa [show i*3+2=0+(0+i)*3+2 from by omega]at this
 ·rw[hy];exact Bz (λb hb' hlt=>⟨hb.block b hlt,hb'⟩) t y' A'.li
theorem JZ{wr w1:World}{it:Value}{t:T}(hown:OwnI wr w.heap.size it ys)(hall:AllP (λb=>w.heap.size<=b/\it.ownBlock≠some b) wr ts ys)(hbel:Below w.heap.size w wr)(hb1:Below wr.heap.size wr w1)
 (hy:LiesP (λb=>wr.heap.size<=b) w1 t y) (hlen:ys.length<=1000000000) (ty:TypeId):
 ∃v' w3,(Builtin.append_ #[108,108] ty #[it, .slice (some ⟨w1.heap.size,0,none⟩) 1 1]).run prog (w1.alloc (.cells #[.bool y.l, .slice y.ba y.bn y.bc, .slice y.ia y.m y.ic] 110))= .ok v' w3/\
  OwnI w3 w.heap.size v' (ys++[y])/\AllP (λb=>w.heap.size<=b/\v'.ownBlock≠some b) w3 (ts++[t]) (ys++[y])/\Below w.heap.size w w3/\(∀b,b<w1.heap.size->it.ownBlock≠some b->w3.heap[b]?=w1.heap[b]?)/\w1.heap.size<=w3.heap.size:=by
 obtain⟨Y,hY⟩:∃Y:Obj,Obj.cells #[.bool y.l, .slice y.ba y.bn y.bc, .slice y.ia y.m y.ic] 110=Y:=⟨_,rfl⟩;rw[hY];have hs2:(w1.alloc Y).heap.size=w1.heap.size+1:=by simp
 have hb2:Below wr.heap.size wr (w1.alloc Y):=hb1.alloc hb1.size _;have hz:=hbel.size;have hz1:=hb1.size;have hblk:(w1.alloc Y).heap[w1.heap.size]?=some Y:=Ai w1 Y;have hnews:∀j u,(V.cells y)[j]?=some u->(w1.alloc Y).cell? ((⟨w1.heap.size,0,none⟩:Addr).add j)=some u:=by
  intro j u hu;rw[BM,AD];rw[<-hY]at hblk⊢;rw[Ae _ _ _ _ _ _ hblk];simpa[V.cells]using hu
 obtain⟨v',w3,hrun,hown3,hgr,hown4⟩:=Jg (DZ hown λg _ hg=>hb2.block g hg) y _ 1 hnews (by omega) hlen ty;have hfar:∀b,b<w1.heap.size+1->it.ownBlock≠some b->w3.heap[b]?=(w1.alloc Y).heap[b]?:=λb hb hne=>hgr.block b (by rw[hs2];exact hb) (λh=>hne h.symm);have hit:∀g,it.ownBlock=some g->g<wr.heap.size:=λg hg=>(EX hown hg).2;have hv':∀b,b<w1.heap.size->it.ownBlock≠some b->v'.ownBlock≠some b:=λb hb hne h=>by
  rcases hown4 with h4|h4
  ·exact hne (h4.symm.trans h)
  ·rw[h4,hs2]at h;cases h;omega
 refine⟨v',w3,hrun,hown3,AllP.snoc ?_ (hall.mono λb hb hlt=>⟨?_,hb.1,hv' b (by omega) hb.2⟩),?_,λb hb hne=>?_,by have:=hgr.size;omega⟩
 ·refine Bz (λb hb hlt=>⟨?_,by omega,?_⟩) t y hy
  ·have hne:it.ownBlock≠some b:=λh=>by have:=hit b h;omega
   rw[hfar b (by omega) hne,Au _ _ _ hlt]
  ·exact hv' b hlt (λh=>by have:=hit b h;omega)
 ·rw[hfar b (by omega) hb.2];exact hb2.block b hlt
 ·refine hbel.trans ⟨hgr.os.trans hb2.os,hgr.tape.trans hb2.tape,hgr.output.trans hb2.output,Al hb2.size hgr.size,λb hb=>?_⟩;rw[hfar b (by omega) (λh=>by have:=(EX hown h).1;omega)];exact hb2.block b (by omega)
 ·rw[hfar b (by omega) hne,Au _ _ _ hb]
structure Nn(w v:World)(x:NV):Prop where
 row:v.heap[w.heap.size+1]?=some (.cells #[.bool false, .slice none 0 0, .slice none 0 0] 110)
 bx:NBx w.heap.size v x
 bel:Below w.heap.size w v
 sz:w.heap.size+2<=v.heap.size
theorem Nn.go{v:World}(h:Nn w v x)(hb:Below v.heap.size v v'):Nn w v' x:=⟨Below.row hb h.row,h.bx.go hb,below_go h.bel hb,Al h.sz hb.size⟩
theorem WF(w:World)(x:NV)(hl:x.c.d.length=32):Nn w ((w.alloc (.cells x.cells.toArray 92)).alloc (.cells #[.bool false, .slice none 0 0, .slice none 0 0] 110)) x:=by
 have s1:(w.alloc (.cells x.cells.toArray 92)).heap.size=w.heap.size+1:=by simp
 refine⟨?_,(E8 w x hl).go (below_new _ _),below_go (below_new w _) (below_new _ _),by simp⟩;have:=Ai (w.alloc (.cells x.cells.toArray 92)) (.cells #[.bool false, .slice none 0 0, .slice none 0 0] 110);rwa [s1]at this
theorem Nn.x0{v:World}(h:Nn w v x):v.cell? ⟨w.heap.size+1,0,none⟩=some (.bool false):=by rw[Ae _ _ _ _ _ _ h.row];rfl
theorem Nn.x1{v:World}(h:Nn w v x):v.cell? ⟨w.heap.size+1,1,none⟩=some (.slice none 0 0):=by rw[Ae _ _ _ _ _ _ h.row];rfl
theorem Nn.x2{v:World}(h:Nn w v x):v.cell? ⟨w.heap.size+1,2,none⟩=some (.slice none 0 0):=by rw[Ae _ _ _ _ _ _ h.row];rfl
theorem Nn.xf{v:World}(h:Nn w v x):∀o,v.frozen? ⟨w.heap.size+1,o,none⟩=false:=λo=>AL _ _ _ _ _ h.row
theorem GG{v:World}{t:T}(h:Nn w v x)(hy:LiesP (λb=>w.heap.size+2<=b) v t y):
 IPost w t (.returned (.agg #[.bool y.l, .slice y.ba y.bn y.bc, .slice y.ia y.m y.ic])) (((v.setCell ⟨w.heap.size+1,0,none⟩ (.bool y.l)).setCell ⟨w.heap.size+1,1,none⟩ (.slice y.ba y.bn y.bc)).setCell ⟨w.heap.size+1,2,none⟩ (.slice y.ia y.m y.ic)):=
 ⟨⟨y,rfl,Bz (λb hb hlt=>⟨Ds (by omega) _ _ _,by omega⟩) _ _ hy⟩,Ch h.bel (by omega) _ _ _⟩
theorem QU{base:Nat}{u:World}{it:Value}(hown:OwnI u base it ys)(hall:AllP (λb=>base<=b/\it.ownBlock≠some b) u ts ys):∃ia ic,it= .slice ia ts.length ic/\ts.length<=ic/\ic<=maxLen/\LiesPAll (λb=>base<=b) u ts ia 0:=
 LD (P:=λb=>base<=b) hown (hall.mono λb hb _=>⟨rfl,hb.1⟩) (λg hg=>World.ownsRow.lt hown g hg|>.1)
theorem Mh(K:Nat->Prop)(x:NV)(n:PN)(w:World)(h:NodeAt K w x n)(hks:n.ks.length<=100):
 Calls prog 116 #[.agg x.cells.toArray] w (IPost w (.mk true [] (n.ks.map refItemP++[.mk false n.v []]))):=by
 have HNN:=Xba (WF w x h.c.len);have HH:=Xba h;obtain⟨hm1,hm2,hm3,hm4,hm5⟩:=h.m;unfold maxLen at hm3;have HM1:=Xba hm1;have hkn:x.kn<=100:=by rw[hm1];exact hks
 obtain⟨ka,hka⟩:∃ka,x.ka=ka:=⟨_,rfl⟩;have hks0:=h.ks;rw[hka]at hks0;have HKS:=Xba hks0;have HKA:=Xba hka;clear h hm1 hm4 hm5 hka hks0 hks;go_enter func116,ntmps116;go_upto_region 1 with fail;refine gen_w (p:=λv=>Code.wp _ _ _ _ v) (q:=λv=>Nn w v x) HNN.out ?_;clear HNN;intro v N0;have c37:=N0.bx.c37;rw[HKA.out]at c37;have HN0:=Xba N0;clear N0;go_wp2_with fail
 go_loopw [3,9] (λit s9 u=>∃(j:Nat)(ys:List V),j<=x.kn/\s9= .int .i64 j/\ys.length=j/\OwnI u v.heap.size it ys/\AllP (λb=>v.heap.size<=b/\it.ownBlock≠some b) u ((n.ks.take j).map refItemP) ys/\Below v.heap.size v u) (λ_ s9 _=>x.kn-(intOf s9).toNat)
 case atStart=>exact⟨0,[],by omega,rfl,rfl,Dn _ _ _ _,trivial,Ak _ _⟩
 case round=>
  obtain⟨j,ys,hj,rfl,hyl,hown,hall,hbel⟩:=hrel;have HYL:=Xba hyl;have HOWN:=Xba hown;have HALL:=Xba hall;have HBEL:=Xba hbel;clear hyl hown hall hbel;by_cases hlt:j<x.kn
  ·have hji:(j:Int)<x.kn:=(by omega);obtain⟨r,hr⟩:∃r,n.ks[j]?=some r:=⟨_,Ac (by have:=HM1.out;omega)⟩;obtain⟨g,off,y,hka,_,hrg,hy⟩:=HKS.out j r hr;subst hka;have HRG:=Xba (ED hrg (λhl=>(below_go HN0.out.bel HBEL.out).block g hl));have HL:=Xba hy.len;have HY:=Xba hy;have HR:=Xba hr;clear hrg hy hr;go_upto_region 5 with(first|refine Cz rfl _ rfl g (off+j*34) rfl y HL.out HRG.out ?_|refine A4 rfl 62 _ _ rfl _ y.cells.toArray rfl rfl 62 _ (Ai _ _) (Da HL.out) (Dv HL.out) (Am (RV.one _)) ?_);refine gen_w (p:=λv=>Code.wp _ _ _ _ v) (q:=λu=>RBx wr.heap.size u y/\Below wr.heap.size wr u) ⟨⟨AA _ _ _ _ _ _ (Ai _ _),HL.out⟩,Below.setRow (below_new wr _) (Aa _) _⟩ ?_;rintro u1⟨B1',b1⟩;have HX1:=Xba B1';have HB1:=Xba b1;have HRF:=Xba (K5 K y r u1 (HY.out.go (Keep.below (below_go HN0.out.bel (below_go HBEL.out b1)))));clear B1' b1;go_wp2_with (first|refine Cz rfl _ rfl wr.heap.size 0 rfl y HL.out HX1.out.all ?_);refine HRF.out.mono ?_;rintro e w2⟨⟨z,rfl,hz⟩,hb2⟩;have hz':LiesP (λb=>wr.heap.size<=b) w2 (refItemP r) z:=Bz (λb hb hlt=>⟨rfl,Al HB1.out.size hb⟩) _ _ hz;obtain⟨v',w3,hrun,hown3,hall3,hbel3,hfar,hsz3⟩:=JZ HOWN.out HALL.out HBEL.out (below_go HB1.out hb2) hz' (by have:=HYL.out;omega) 108;have HRUN:=Xba hrun;have HO3:=Xba hown3;have HA3:=Xba (show AllP (λb=>v.heap.size<=b/\v'.ownBlock≠some b) w3 ((n.ks.take (j+1)).map refItemP) (ys++[z])from by rw[DM HR.out,BA];exact hall3);have HB3:=Xba hbel3;clear hz hz' hb2 hrun hown3 hall3 hbel3 hfar hsz3;go_wp2_with (first|refine Er rfl _ _ rfl _ _ rfl rfl HRUN.out ?_)
   go_roundw
   case rel=>exact⟨j+1,ys++[z],by omega,by simp,by have:=HYL.out;simp;omega,HO3.out,HA3.out,HB3.out⟩
   case measure=>simp[intOf];omega
  ·have hji:¬(j:Int)<x.kn:=(by omega);have hjk:j=x.kn:=(by omega);have hall:=HALL.out;rw[hjk,HM1.out,List.take_length]at hall;have HA:=Xba hall;have NR':=HN0.out.go HBEL.out;have c2:=NR'.bx.c2;have HNR:=Xba NR';have hv:=HH.out.v;have HTX:=Xba (Fl x.va x.vn x.vc n.v wr (hv.1.at (below_go HN0.out.bel HBEL.out)) hv.2.1);have hvl:=hv.l;have hvn:=hv.2.1;have hvb:=hv.1.b;have HVL:=Xba hvl;have HVB:=Xba hvb;clear hjk hall NR' hv hvl hvb;go_wp2_with fail;refine HTX.out.mono ?_;rintro e w2⟨rfl,hrow,hb2⟩;have hz':LiesP (λb=>wr.heap.size<=b) w2 (.mk false n.v []) ⟨false,some ⟨wr.heap.size+1,0,none⟩,x.vn,x.vn,none,0,0⟩:=Gx hrow HVL.out HVB.out hvn (by omega);obtain⟨v',w3,hrun,hown3,hall3,hbel3,hfar,hsz3⟩:=JZ HOWN.out HA.out HBEL.out hb2 hz' (by have:=HYL.out;omega) 108;obtain⟨ia,ic,rfl,hic1,hic2,hlp⟩:=QU hown3 hall3;have hml:(n.ks.map refItemP++[T.mk false n.v []]).length=x.kn+1:=(by have:=HM1.out;simp;omega);rw[hml]at hrun hic1;simp only at hrun;have HRUN:=Xba hrun;have HN3:=Xba (show Nn w w3 x from HN0.out.go hbel3);have HML:=Xba hml;have HLP:=Xba hlp;have HS0:=Xba HN0.out.sz;have HS3:=Xba hbel3.size
   have HII:=Xba (show ia=none->ic=0 from λe=>by
    subst e;rcases hown3.2 with⟨h1,h2⟩|⟨g,cap,cur,h1,_⟩
    ·rw[hml]at h1;cases h1
    ·cases h1)
   have HLL:=Xba (JY (λb=>w.heap.size+2<=b) ia (x.kn+1) ic _ ⟨hml.symm,hic1,hic2,by omega⟩ w3 (DL (λb hb hlt=>⟨rfl,by have:=HS0.out;omega⟩) (λt ht z hz=>Bz (λb hb hlt=>⟨rfl,by have:=HS0.out;omega⟩) t z hz) HLP.out) HII.out (λb hb=>by have:=HS0.out;have:=HS3.out;omega));obtain⟨kn1,hkn1⟩:∃kn1,x.kn+1=kn1:=⟨_,rfl⟩;rw[hkn1]at HRUN HLL;clear hrow hb2 hz' hrun hown3 hall3 hbel3 hfar hsz3 hlp hic1 hic2 hml c2 hkn1;go_wp2_with (first|refine Er rfl _ _ rfl _ _ rfl rfl HRUN.out ?_);refine HLL.out.mono ?_;rintro e w4⟨⟨z,rfl,hz⟩,hb4⟩;have N4:=HN3.out.go hb4;have x0:=N4.x0;have x1:=N4.x1;have x2:=N4.x2;have xf:=N4.xf;have HN4:=Xba N4;have HZ:=Xba hz;clear N4 hz hb4;go_wp2_with fail;have hr:=put3 HN4.out.row (.bool z.l) (.slice z.ba z.bn z.bc) (.slice z.ia z.m z.ic);refine Ap (Ba results116 _ _ (w.heap.size+1) 110 _ (0,0) _ rfl hr underlying110 rfl (by kernel_rfl)) rfl ?_;exact GG HN4.out HZ.out
end Go.Proofs.YtalhnnjpjaeakaaGreat
