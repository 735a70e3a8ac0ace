/- The document's Encode of a branch. -/
import Derived.Test.YtalhnnjpjaeakaaGreatAK
import Derived.Test.YtalhnnjpjaeakaaGreatG19
import Derived.Test.YtalhnnjpjaeakaaGreatG20
import Derived.Test.YtalhnnjpjaeakaaGreatG15
import Derived.Test.YtalhnnjpjaeakaaGreatG18
import Derived.Test.YtalhnnjpjaeakaaGreatG11
import Derived.Test.YtalhnnjpjaeakaaGreatG01
import Derived.Deep.RegionLaw
import Derived.Test.YtalhnnjpjaeakaaGreatG10
import Derived.Test.YtalhnnjpjaeakaaGreatG13
import Derived.Great.BuildSlice
import Derived.Great.FillDense
set_option linter.unusedVariables false
set_option maxRecDepth 100000
set_option maxHeartbeats 8000000
open Go.Proofs.Tryz Go.RowKit
namespace Go.Proofs.YtalhnnjpjaeakaaGreat
variable {gI : Nat} {w : World} {n : PN}
section
variable {a : Act} {w : World}
theorem FF{x:Operand}{o:Oper}(ho:o.op= .buildSlice 108 1 #[(0,x)])(p:V)(hx:a.eval x= .agg #[.bool p.l, .slice p.ba p.bn p.bc, .slice p.ia p.m p.ic]):
 (execOp a.eval o).run prog w= .ok (.value (.slice (some ⟨w.heap.size,0,none⟩) 1 1)) (w.alloc (.cells #[.bool p.l, .slice p.ba p.bn p.bc, .slice p.ia p.m p.ic] 110)):=by
 unfold execOp;rw[ho];simp only[Ci,B9,C6,hx];go_simp
theorem Iz{w':World}{s x:Operand}{o:Oper}(ho:o.op= .call {callee:= .builtin .append,args:=#[s,x],argTypes:=#[108,108]})(v u:Value)(hd:a.eval s=v)(hx:a.eval x=u){v':Value}
 (hr:(Builtin.append_ #[108,108] o.type #[v,u]).run prog w= .ok v' w'):(execOp a.eval o).run prog w= .ok (.value v') w':=by
 simp[execOp,ho,resolve,invoke,builtin,hd,hx,hr,Result.andThen]
theorem FG{x y:Operand}{o:Oper}(ho:o.op= .store 108 x y)(g:Nat)(it old:Value)(h1:∃ia m ic,it= .slice ia m ic)(hx:a.eval x= .pointer (some ⟨g,2,none⟩))(hy:a.eval y=it)(hc:w.cell? ⟨g,2,none⟩=some old)(hf:∀o,w.frozen? ⟨g,o,none⟩=false):
 (execOp a.eval o).run prog w= .ok .skip (w.setCell ⟨g,2,none⟩ it):=by
 obtain⟨ia,m,ic,rfl⟩:=h1;unfold execOp;rw[ho];simp only[hx,hy];go_simp
end
theorem So.one{v:World}{it:Value}{ts:List T}(h:So gI v it ts):∃ia m ic,it= .slice ia m ic:=by
 obtain⟨ia,ic,e,_⟩:=h.full (w:=v);exact⟨ia,_,ic,e⟩
def EEPost(w:World)(n:PN):Ending->World->Prop:=λe w'=>(∃a m c,e= .returned (.tuple #[.slice a m c, .int .i64 (if NR n=true then 0 else 50)])/\Ag w' a m c (if NR n=true then NE n else[])/\Nw w.heap.size a)/\Below w.heap.size w w'
theorem Hg{u:World}{it:Value}{TS:List T}(hF:Full gI w u it TS)(hlen:TS.length<=1000)(ht: .mk true [] TS=itemP n)(hb:(mP (itemP n)).2=0):
 ∃ia m ic,it= .slice ia m ic/\Calls prog 107 #[.agg #[.bool true, .slice none 0 0, .slice ia m ic]] u λe w'=>(∃a m c,e= .returned (.tuple #[.slice a m c, .int .i64 0])/\Ag w' a m c (NE n)/\Nw u.heap.size a)/\Below u.heap.size u w':=by
 obtain⟨ia,ic,rfl,f1,f2,f3⟩:=hF;refine⟨ia,_,ic,rfl,(K8 (.mk true [] TS) ⟨true,none,0,0,ia,TS.length,ic⟩ u (lies_eq.2 ⟨rfl,⟨.inl ⟨rfl,rfl⟩,λ_=>⟨rfl,rfl⟩,rfl,λx hx=>by cases hx⟩,rfl,f1,f2,⟨Ay _,by show TS.length<=_;omega⟩,f3⟩)).mono ?_⟩;rw[ht,Gr hb];rintro e w'⟨⟨a,m,c,e1,e2,e4⟩,e3⟩;exact⟨⟨a,m,c,e1,e2,e4 rfl⟩,e3⟩
theorem En.drew{v:World}{x:NV}{it:Value}(h:En w v x gI it):En w v.drew x gI it:=h.all (Ak _ _).drew
theorem YF(h:NR n=true)(h3:n.k=3):n.ks.length=16:=by
 unfold NR nright rkidsP at h;by_cases h16:n.ks.length=16
 ·exact h16
 ·simp[h3,h16]at h
theorem WR(K:Nat->Prop)(x:NV)(n:PN)(w:World)(h:NodeAt K w x n)(h3:n.k=3)(hd:∀r,(r=n.c∨r∈n.ks)->r.i.length<32->DDSaid r.i):
 Calls prog 73 #[.agg x.cells.toArray] w (EEPost w n):=by
 have B:=E8 w x h.c.len;have HB:=XaI (below_new w (.cells x.cells.toArray 92));have HH:=XaI h;obtain⟨q,hq⟩:∃q,NR n=q:=⟨_,rfl⟩
 have HR1:=XaI (show∀v,Below w.heap.size w v->Calls prog 104 #[.agg x.cells.toArray] v λe w'=>e= .returned (.bool q)/\Below v.heap.size v w' from λv hv=>by
  rw[<-hq];exact GY K x n v (h.go (Keep.below hv)) hd)
 have HQ:=XaI hq;have hk3:x.k=3:=by rw[h.k];exact h3
 have hvn:=h.v.2.1;unfold EEPost;rw[hq];have H3:=XaI h3;clear h hq hd h3;go_enter func73,ntmps73;go_upto_region 1 with fail;refine gen_w (p:=λv=>Code.wp _ _ _ _ v) (q:=λv=>NBx w.heap.size v x/\Below w.heap.size w v) ⟨B,HB.out⟩ ?_;clear B HB;rintro v⟨B,hb⟩;have HB:=XaI hb;have HX:=XaI B;clear hb B;go_wp2_with (first|refine CF rfl _ rfl w.heap.size rfl x HX.out ?_);refine(HR1.out v HB.out).mono ?_;rintro e w1⟨rfl,hb1⟩;have HX1:=XaI (HX.out.go hb1);have HB1:=XaI (below_go HB.out hb1);clear hb1 HX HB;cases q with
 |false=>
  go_wp2_with fail;go_ret2;exact⟨⟨none,0,0,rfl,⟨.inl ⟨rfl,rfl⟩,λ_=>⟨rfl,rfl⟩,rfl,λx hx=>by cases hx⟩,λg off h=>by cases h⟩,HB1.out⟩
 |true=>
  obtain⟨b1,b2,b3⟩:=EZ HH.out.okN HQ.out;have HM:=XaI b1;have hks:=YF HQ.out H3.out;have HKS:=XaI hks;have H16:=XaI (show x.kn=16 from by rw[HH.out.m.1];exact hks);have HLT:=XaI (show w.heap.size<w1.heap.size from(BF.1 HX1.out.row).1);clear b1 b2 b3 hks;go_upto_region 5 with fail;obtain⟨gI,hgI⟩:∃gI,w1.heap.size=gI:=⟨_,rfl⟩;refine gen_w (p:=λv=>Code.wp _ _ _ _ v) (q:=λv=>En w v x gI (.slice none 0 0)) ⟨by rw[<-hgI];exact Ai _ _,HX1.out.go (below_new _ _),below_go HB1.out (below_new _ _),by rw[<-hgI];exact HLT.out,by simp[hgI]⟩ ?_;intro v2 E2;rw[hgI];have c0:=E2.bx.c0;rw[hk3]at c0;have HE2:=XaI E2;clear E2 HX1 HB1 HLT hgI;go_wp2_with fail
  go_loopw [6] (λs6 u=>∃(j:Nat)(it:Value),j<=16/\s6= .int .i64 j/\En w u x gI it/\So gI u it ((n.ks.take j).map refItemP)) (λs6 _=>16-(intOf s6).toNat)
  case atStart=>exact⟨0,_,by omega,rfl,HE2.out,ZU _ _⟩
  case round=>
   obtain⟨j,it,hj,rfl,hE,hSO⟩:=hrel;have HE:=XaI hE;have HSO:=XaI hSO;clear hE hSO HE2 c0;by_cases hlt:j<16
   ·have hji:(j:Int)<16:=(by omega);obtain⟨r,hr⟩:∃r,n.ks[j]?=some r:=⟨_,Ac (by rw[HKS.out];exact hlt)⟩;obtain⟨g,off,y,hka,_,hrg,hy⟩:=HH.out.ks j r hr;have HKA:=XaI hka;have HRG:=XaI hrg;have HL:=XaI hy.len;have HY:=XaI hy;have HR:=XaI hr;clear hrg hy hr hka;go_upto_region 9 with fail;rename_i KK hkk;refine BV (S:=λv'=>NBx w.heap.size v' x/\Below w.heap.size w v') (by kernel_rfl) ⟨⟨HE.out.bx.row,HE.out.bx.l⟩,HE.out.bel.drew⟩ (λhS=>?_);have hE0:=HE.out.drew;refine Bh 0 23 (.pointer (some ⟨gI,2,none⟩)) rfl rfl (by kernel_rfl) (by kernel_rfl) (by kernel_rfl) (λ_ _ _ h=>h) (by kernel_rfl) (λv _=>by kernel_rfl) hS<|Bh 2 25 (.pointer (some ⟨w.heap.size,37,none⟩)) rfl rfl (by kernel_rfl) (by kernel_rfl) (by kernel_rfl) (λ_ _ _ h=>h) (by kernel_rfl) (λv _=>by kernel_rfl) hS<|Bh 3 26 (.slice (some ⟨g,off,none⟩) 16 x.kc) rfl rfl (by kernel_rfl) (by kernel_rfl) (by kernel_rfl) (λ_ _ _ h=>h) (by kernel_rfl) (λv' hv=>J9 rfl (by kernel_rfl) (by rw[<-HKA.out,<-H16.out];exact hv.1.c37)) hS<|Bh 4 27 (.int .i64 j) rfl rfl (by kernel_rfl) (by kernel_rfl) (by kernel_rfl) (λ_ _ _ h=>h) (by kernel_rfl) (λv _=>by kernel_rfl) hS<|Bh 5 28 (.pointer (some ⟨g,off+j*34,none⟩)) rfl rfl (by kernel_rfl) (by kernel_rfl) (by kernel_rfl) (λ_ _ _ h=>h) (by kernel_rfl) (λv' _=>U6 (m:=16) (c:=x.kc) rfl (by kernel_rfl) (by kernel_rfl) hlt) hS<|Bh 6 29 (.agg y.cells.toArray) rfl rfl (by kernel_rfl) (by kernel_rfl) (by kernel_rfl) (λ_ _ _ h=>h) (by kernel_rfl) (λv' hv=>Gs rfl (by kernel_rfl) HL.out (ED HRG.out (λhl=>hv.2.block g hl))) hS<|AA (rs:=[1,7]) (by kernel_rfl) (by simp) ?_;refine CH 1 24 it rfl rfl (by kernel_rfl) (CT rfl (by kernel_rfl) hE0.c2) hS ?_ ?_
    ·refine AA (rs:=[7]) (by kernel_rfl) (by simp) ?_;refine Ek 7 30 rfl rfl (by kernel_rfl) 105 #[.agg y.cells.toArray] (by kernel_rfl) (R:=λval w'=>Below wr.drew.heap.size wr.drew w'/\∃z:V,val= .agg #[.bool z.l, .slice z.ba z.bn z.bc, .slice z.ia z.m z.ic]/\LiesP (λb=>wr.drew.heap.size<=b) w' (refItemP r) z) ((Iu K y r wr.drew (HY.out.go (Keep.below hS.2))).mono (λe w' h=>DU h (Aa _))) (λval w' h=>⟨hS.1.go h.1,below_go hS.2 h.1⟩) ?_ A7;rintro val u1⟨hb1,z,rfl,hz⟩;have hS1:NBx w.heap.size u1 x/\Below w.heap.size w u1:=⟨hS.1.go hb1,below_go hS.2 hb1⟩;have hE1:=hE0.all hb1;obtain⟨v',w3,hrun,hso3,hb3⟩:=WI hE0.sz (HSO.out.all (Ak _ _).drew) hb1 hz (by rw[Ba,Ap];omega) 108;have hE2:En w (u1.alloc (.cells #[.bool z.l, .slice z.ba z.bn z.bc, .slice z.ia z.m z.ic] 110)) x gI it:=hE1.all (below_new _ _);have hE3:=hE0.go hb3;have hE4:=hE3.put v';have hSO4:=hso3.put v';refine AA (rs:=[8]) (by kernel_rfl) (by simp) ?_;refine CH 8 31 (.slice (some ⟨u1.heap.size,0,none⟩) 1 1) rfl rfl (by kernel_rfl) (FF rfl z (by kernel_rfl)) ⟨hE2.bx,hE2.bel⟩ ?_ A7;refine AA (rs:=[9]) (by kernel_rfl) (by simp) ?_;refine CH 9 32 v' rfl rfl (by kernel_rfl) (Iz rfl it (.slice (some ⟨u1.heap.size,0,none⟩) 1 1) (by kernel_rfl) (by kernel_rfl) hrun) ⟨hE3.bx,hE3.bel⟩ ?_ A7;refine Bh 10 33 (.pointer (some ⟨gI,2,none⟩)) rfl rfl (by kernel_rfl) (by kernel_rfl) (by kernel_rfl) (λ_ _ _ h=>h) (by kernel_rfl) (λv _=>by kernel_rfl) ⟨hE3.bx,hE3.bel⟩<|AA (rs:=[11]) (by kernel_rfl) (by simp) ?_;refine DE 11 rfl rfl (by kernel_rfl) (FG rfl gI v' it hso3.one (by kernel_rfl) (by kernel_rfl) hE3.c2 hE3.fz) ⟨hE4.bx,hE4.bel⟩ ?_ A7;refine Cj (by kernel_rfl) ?_ _;refine hkk _ _ ?_;have HE4:=XaI hE4;have HSO4:=XaI (show So gI (w3.setCell ⟨gI,2,none⟩ v') v' ((n.ks.take (j+1)).map refItemP)from by rw[DL HR.out,BA];exact hSO4);clear hE4 hSO4 hE3 hE2 hE1 hE0 hS hS1 hso3 hb3 hrun hz hb1 hkk
     go_frame
     go_wp2_with fail;exact⟨⟨j+1,v',by omega,by simp,HE4.out,HSO4.out⟩,by simp[intOf];omega⟩
    refine Ek 7 30 rfl rfl (by kernel_rfl) 105 #[.agg y.cells.toArray] (by kernel_rfl) (R:=λval w'=>Below wr.drew.heap.size wr.drew w'/\∃z:V,val= .agg #[.bool z.l, .slice z.ba z.bn z.bc, .slice z.ia z.m z.ic]/\LiesP (λb=>wr.drew.heap.size<=b) w' (refItemP r) z) ((Iu K y r wr.drew (HY.out.go (Keep.below hS.2))).mono (λe w' h=>DU h (Aa _))) (λval w' h=>⟨hS.1.go h.1,below_go hS.2 h.1⟩) ?_ A7;rintro val u1⟨hb1,z,rfl,hz⟩;have hS1:NBx w.heap.size u1 x/\Below w.heap.size w u1:=⟨hS.1.go hb1,below_go hS.2 hb1⟩;have hE1:=hE0.all hb1;obtain⟨v',w3,hrun,hso3,hb3⟩:=WI hE0.sz (HSO.out.all (Ak _ _).drew) hb1 hz (by rw[Ba,Ap];omega) 108;have hE2:En w (u1.alloc (.cells #[.bool z.l, .slice z.ba z.bn z.bc, .slice z.ia z.m z.ic] 110)) x gI it:=hE1.all (below_new _ _);have hE3:=hE0.go hb3;have hE4:=hE3.put v';have hSO4:=hso3.put v';refine AA (rs:=[1,8]) (by kernel_rfl) (by simp) ?_;refine CH 1 24 it rfl rfl (by kernel_rfl) (CT rfl (by kernel_rfl) hE1.c2) hS1 ?_ ?_
    ·refine AA (rs:=[8]) (by kernel_rfl) (by simp) ?_;refine CH 8 31 (.slice (some ⟨u1.heap.size,0,none⟩) 1 1) rfl rfl (by kernel_rfl) (FF rfl z (by kernel_rfl)) ⟨hE2.bx,hE2.bel⟩ ?_ A7;refine AA (rs:=[9]) (by kernel_rfl) (by simp) ?_;refine CH 9 32 v' rfl rfl (by kernel_rfl) (Iz rfl it (.slice (some ⟨u1.heap.size,0,none⟩) 1 1) (by kernel_rfl) (by kernel_rfl) hrun) ⟨hE3.bx,hE3.bel⟩ ?_ A7;refine Bh 10 33 (.pointer (some ⟨gI,2,none⟩)) rfl rfl (by kernel_rfl) (by kernel_rfl) (by kernel_rfl) (λ_ _ _ h=>h) (by kernel_rfl) (λv _=>by kernel_rfl) ⟨hE3.bx,hE3.bel⟩<|AA (rs:=[11]) (by kernel_rfl) (by simp) ?_;refine DE 11 rfl rfl (by kernel_rfl) (FG rfl gI v' it hso3.one (by kernel_rfl) (by kernel_rfl) hE3.c2 hE3.fz) ⟨hE4.bx,hE4.bel⟩ ?_ A7;refine Cj (by kernel_rfl) ?_ _;refine hkk _ _ ?_;have HE4:=XaI hE4;have HSO4:=XaI (show So gI (w3.setCell ⟨gI,2,none⟩ v') v' ((n.ks.take (j+1)).map refItemP)from by rw[DL HR.out,BA];exact hSO4);clear hE4 hSO4 hE3 hE2 hE1 hE0 hS hS1 hso3 hb3 hrun hz hb1 hkk
     go_frame
     go_wp2_with fail;exact⟨⟨j+1,v',by omega,by simp,HE4.out,HSO4.out⟩,by simp[intOf];omega⟩
    refine CH 8 31 (.slice (some ⟨u1.heap.size,0,none⟩) 1 1) rfl rfl (by kernel_rfl) (FF rfl z (by kernel_rfl)) ⟨hE2.bx,hE2.bel⟩ ?_ A7;refine AA (rs:=[1]) (by kernel_rfl) (by simp) ?_;refine CH 1 24 it rfl rfl (by kernel_rfl) (CT rfl (by kernel_rfl) hE2.c2) ⟨hE2.bx,hE2.bel⟩ ?_ A7;refine AA (rs:=[9]) (by kernel_rfl) (by simp) ?_;refine CH 9 32 v' rfl rfl (by kernel_rfl) (Iz rfl it (.slice (some ⟨u1.heap.size,0,none⟩) 1 1) (by kernel_rfl) (by kernel_rfl) hrun) ⟨hE3.bx,hE3.bel⟩ ?_ A7;refine Bh 10 33 (.pointer (some ⟨gI,2,none⟩)) rfl rfl (by kernel_rfl) (by kernel_rfl) (by kernel_rfl) (λ_ _ _ h=>h) (by kernel_rfl) (λv _=>by kernel_rfl) ⟨hE3.bx,hE3.bel⟩<|AA (rs:=[11]) (by kernel_rfl) (by simp) ?_;refine DE 11 rfl rfl (by kernel_rfl) (FG rfl gI v' it hso3.one (by kernel_rfl) (by kernel_rfl) hE3.c2 hE3.fz) ⟨hE4.bx,hE4.bel⟩ ?_ A7;refine Cj (by kernel_rfl) ?_ _;refine hkk _ _ ?_;have HE4:=XaI hE4;have HSO4:=XaI (show So gI (w3.setCell ⟨gI,2,none⟩ v') v' ((n.ks.take (j+1)).map refItemP)from by rw[DL HR.out,BA];exact hSO4);clear hE4 hSO4 hE3 hE2 hE1 hE0 hS hS1 hso3 hb3 hrun hz hb1 hkk
    go_frame
    go_wp2_with fail;exact⟨⟨j+1,v',by omega,by simp,HE4.out,HSO4.out⟩,by simp[intOf];omega⟩
   ·have hji:¬(j:Int)<16:=(by omega);have hso:=HSO.out;rw[A5 (by rw[HKS.out];omega)]at hso;have d2:=HE.out.c2;have e2:=HE.out.bx.c2;have ef:=HE.out.fz;obtain⟨v',w3,hrun,hb3,hfull⟩:=YA (t:= .mk false n.v []) (y:=⟨false,x.va,x.vn,x.vc,none,0,0⟩) HE.out hso (Ak _ _) (lies_eq.2 ⟨rfl,HH.out.v.1,rfl,Aa _,Ay _,⟨HH.out.v.2.1,Ay _⟩,Ds⟩) (by rw[Ba,HKS.out];omega) 108;have hE3:=HE.out.go hb3;have f2:=hE3.c2;have ff:=hE3.fz;have HE4:=XaI (hE3.put v');obtain⟨ia,m,ic,hv',hen⟩:=Hg (n:=n) hfull (by rw[Ab,Ba,HKS.out];simp) (by unfold itemP;rw[Af H3.out]) HM.out;subst hv';have HRUN:=XaI hrun;have HEN:=XaI hen;clear hso hrun hb3 hfull hE3 hen;go_upto_region 16 with(first|refine Er rfl _ _ rfl _ _ rfl rfl HRUN.out ?_);generalize w3.setCell ⟨gI,2,none⟩ (.slice ia m ic)=u4 at HE4 HEN⊢;have k0:=HE4.out.c0;have k1:=HE4.out.c1;have k2:=HE4.out.c2;clear d2 e2 ef f2 ff;go_wp2_with fail;refine HEN.out.mono ?_;rintro e w5⟨⟨a,m5,c5,rfl,hag,hnw⟩,hb5⟩;have HAG:=XaI hag;have HNW:=XaI (hnw.mono HE4.out.bel.size);have HB5:=XaI (below_go HE4.out.bel hb5);clear hag hb5 hnw;go_wp2_with fail;go_ret2;exact⟨⟨a,m5,c5,rfl,HAG.out,HNW.out⟩,HB5.out⟩
end Go.Proofs.YtalhnnjpjaeakaaGreat
namespace Go.Proofs.YtalhnnjpjaeakaaGreat.Ni
theorem WT{ops:Array Oper}{o:Oper}{a:Act}{w:World}{K:Act->World->Prop}{Q:Exit->Act->World->Prop}{E:Prop}(hgd:o.guard=none)(s x:Operand)
 (ho:o.op= .call {callee:= .builtin .append,args:=#[s,x],argTypes:=#[27,27]}) (base:Nat) (v:Value) (bs:List Int) (hs:a.eval s=v) (hown:OwnB w base v bs)
 (ad:Addr) (m c:Nat) (news:List Int) (hx:a.eval x= .slice (some ad) m c) (hl:news.length=m) (hnews:∀j u,(news.map (Value.int .u8))[j]?=some u->w.cell? (ad.add j)=some u)
 (hbytes:bs.length+m<=140737488355328) (hbase:base<=w.heap.size)
 (h:∀v' w',OwnB w' base v' (bs++news)->Below base w w'->K (a.put o.dst v') w'):if Region.wanted o (yielded ops a.tmps)=true then Oper.wp prog o a w K Q else E:=by
 have hw:Region.wanted o (yielded ops a.tmps)=true:=by simp[Region.wanted,hgd]
 rw[Af hw];obtain⟨i,hi,hz,hsz,hby⟩:=info5;refine wp_append_own w s x 27 ho base 5 i (.int .u8 0) 1 1 underlying27 hi hz hsz hby rfl (by decide) v bs.length (bs.map (Value.int .u8)) hs hown ad m c (news.map (Value.int .u8)) hx (by simpa using hl) hnews (B8_one2 _) (by unfold maxLen;omega) (by omega) hbase ?_;intro v' w' h1 h2 h3;refine h v' w' ?_ ((Ak _ _).grown h2 hbase hown.lt);unfold OwnB;rw[Ab,hl,BA];exact h1
theorem _root_.Go.Proofs.YtalhnnjpjaeakaaGreat.OwnB.drew{w:World}{base:Nat}{v:Value}{bs:List Int}(h:OwnB w base v bs):OwnB w.drew base v bs:=h.far λi _ _=>rfl
theorem WU(a:Option Addr)(n c:Nat)(p:List Int)(w:World)(h:Ag w a n c p)(hn:n<=140737488355328):
 Calls prog 48 #[.slice a n c] w λe w'=>(∃a' m' c',e= .returned (.tuple #[.slice a' m' c', .bool (keyP p).2])/\Ag w' a' m' c' (keyP p).1/\∀g off,a'=some ⟨g,off,none⟩->0<m'->w.heap.size<=g)/\Below w.heap.size w w':=by
 have hl:=h.l;have hr:=rright_any a n c p w h hn;by_cases hrt:rightP p=true
 case neg=>
  rw[G2 (λhh=>hrt hh.1)];simp only;rw[show rightP p=false from by simpa using hrt]at hr;clear h hl hrt;go_enter func48,ntmps48;go_wp2_with fail;refine hr.mono ?_;rintro e w1⟨rfl,rfl⟩;clear hr;go_wp2_with fail;go_ret2;exact⟨⟨none,0,0,rfl,ag_nil _,λ_ _ e=>by cases e⟩,Ak _ _⟩
 rw[hrt]at hr;by_cases he:n%2=0
 case neg=>
  rw[G2 (λhh=>he (by rw[<-hl];exact hh.2))];simp only;have hei:(n:Int)%2=1:=by omega
  clear h hl he;go_enter func48,ntmps48;go_wp2_with fail;refine hr.mono ?_;rintro e w1⟨rfl,rfl⟩;clear hr;go_wp2_with fail;go_ret2;exact⟨⟨none,0,0,rfl,ag_nil _,λ_ _ e=>by cases e⟩,Ak _ _⟩
 rw[GI hrt (by omega)];simp only;obtain⟨m,hm⟩:∃m,n/2=m:=⟨_,rfl⟩;have HM:Hid (n=2*m):=XaI (by omega);have HKL:Hid ((kk p).length=m):=XaI (by rw[Lc];omega);have HKB:=XaI (NI p h.b hrt);have HL:=XaI hl;have HB:=XaI h.b;have HRT:=XaI hrt;have HC:=XaI (λh0=>ag_head h h0);have hm3:(n:Int)%2=0:=by omega
 clear h hl hrt hm he;go_enter func48,ntmps48;go_wp2_with fail;refine hr.mono ?_;rintro e w1⟨rfl,rfl⟩;clear hr;go_wp2_with fail;clear hm3
 go_loopw [4,5] (λq i v=>∃j k:Nat,j=2*k/\j<=n/\i= .int .i64 j/\OwnB v w1.heap.size q ((kk p).take k)/\Below w1.heap.size w1 v) (λ_ i _=>n-(intOf i).toNat)
 case atStart=>exact⟨0,0,rfl,by omega,rfl,ownB_nil _ _,Ak _ _⟩
 case round=>
  obtain⟨j,k,hjk,hjn,rfl,hown,hb⟩:=hrel;have HJ:=XaI hjk;by_cases hlt:j<n
  ·have hki:((j:Int)+1)<n:=(by have:=HM.out;omega);have hki0:(j:Int)<n:=(by omega);have hget:=NH p k (by have:=HL.out;have:=HM.out;omega);have hts:=take_snoc (b:=kk p) (i:=k) (by have:=HKL.out;have:=HM.out;omega);rw[hget]at hts;obtain⟨g,off,rfl,hnc,hcm,hcs⟩:=HC.out (by omega);unfold maxLen at hcm;have hc1:=(hb.cell (p:=⟨g,off+(2*k),none⟩) (Aj (hcs (2*k) (by omega)))).trans (hcs (2*k) (by omega));have hc2:=(hb.cell (p:=⟨g,off+(2*k+1),none⟩) (Aj (hcs (2*k+1) (by omega)))).trans (hcs (2*k+1) (by omega));have hx0:=(HB.out _ (getD_mem (l:=p) (i:=2*k) (by have:=HL.out;omega))).1;have hy0:=(HB.out _ (getD_mem (l:=p) (i:=2*k+1) (by have:=HL.out;omega))).1;have hx1:=Gi HRT.out (i:=2*k) (by have:=HL.out;omega);have hy1:=Gi HRT.out (i:=2*k+1) (by have:=HL.out;omega);generalize p.getD (2*k) 0=x at*;generalize p.getD (2*k+1) 0=y at*;rw[<-hjk]at hc1 hc2;have ht2:((j:Int)+1).toNat=j+1:=(by omega);have ht3:(0:Int)<=(j:Int)+1:=(by omega);have hw1:IntKind.i64.wrap ((j:Int)+1)=(j:Int)+1:=(by rw[IntKind.wrap_i64];omega);have hw2:IntKind.u8.wrap (16*x)=16*x:=(by rw[IntKind.wrap_u8];omega);have hw3:IntKind.u8.wrap (16*x+y)=16*x+y:=(by rw[IntKind.wrap_u8];omega);have HTS:=XaI hts;have HTL:Hid (((kk p).take k).length=k):=XaI (by rw[Ap,HKL.out];have:=HM.out;omega);have HO2:Hid (∀o:Obj,OwnB (wr.drew.alloc o) w1.heap.size u4 ((kk p).take k)):=XaI λo=>OwnB.alloc hown.drew o;have HBB:=XaI hb;have HSZ:=XaI hb.size;clear hts hown hb hget hcs hjk;go_wp2_with fail
   go_region_law (refine WT rfl (.tmp 22) (.tmp 34) rfl w1.heap.size _ ((kk p).take k) rfl (HO2.out _) ⟨wr.heap.size,0,none⟩ 1 1 [16*x+y] rfl rfl (one_new wr.drew _) (by have:=HTL.out;have:=HJ.out;omega) (by have:=HSZ.out;simp;omega) ?_;intro v1 w2 o1 hb1;rw[<-HTS.out]at o1;have HO3:=XaI o1;have HB3:=XaI hb1;clear o1 hb1)
   all_goals
    go_wp2_with fail;refine⟨⟨j+2,k+1,by have:=HJ.out;omega,by omega,by simp,HO3.out,?_⟩,by simp[intOf];omega⟩;exact(HBB.out.drew.alloc HSZ.out _).trans HB3.out
  ·have hki:¬((j:Int)+1)<n:=(by omega);have e:k=m:=(by have:=HM.out;omega);subst e;rw[A5 (by rw[HKL.out];exact Aa _)]at hown;obtain⟨a',c',rfl,hag⟩:=OwnB.ag hown HKB.out
   have HN:Hid (∀g off,a'=some ⟨g,off,none⟩->0<k->w1.heap.size<=g):=XaI (by
    rcases hown.2 with⟨e,_⟩|⟨g',cap',cur,e,hg',_⟩
    ·injection e with e1;rw[e1];intro _ _ q;cases q
    ·injection e with e1;rw[e1];intro _ _ q;cases q;exact λ_=>hg')
   have HA:=XaI hag;have HBB:=XaI hb;clear hown hag hb hjk;go_wp2_with fail;go_ret2;exact⟨⟨a',_,c',rfl,HA.out,λg off e h0=>HN.out g off e (by have:=HA.out.l;have:=HKL.out;omega)⟩,HBB.out⟩
theorem JA(a:Option Addr)(n c:Nat)(p:List Int)(w:World)(h:Ag w a n c p)(hn:n<=140737488355328):
 Calls prog 48 #[.slice a n c] w λe w'=>(∃a' m' c',e= .returned (.tuple #[.slice a' m' c', .bool (keyP p).2])/\Ag w' a' m' c' (keyP p).1)/\Below w.heap.size w w':=
 (WU a n c p w h hn).mono λe w' hq=>by obtain⟨⟨a',m',c',h1,h2,_⟩,h3⟩:=hq;exact⟨⟨a',m',c',h1,h2⟩,h3⟩
end Go.Proofs.YtalhnnjpjaeakaaGreat.Ni
namespace Go.Proofs.YtalhnnjpjaeakaaGreat.Ni
theorem Xar(n:Nat)(leaf:Bool):hdP n leaf=if n%2=0 then[if leaf then 2 else 0]++[0]else[if leaf then 3 else 1]:=by
 unfold hdP;cases leaf<;>rfl
theorem rpack_any(a:Option Addr)(n c:Nat)(p:List Int)(leaf:Bool)(w:World)(h:Ag w a n c p)(hn:n+2<=140737488355328):
 Calls prog 106 #[.slice a n c, .bool leaf] w λe w'=>(∃a' m c',e= .returned (.tuple #[.slice a' m c', .int .i64 ((packP p leaf).2:Nat)])/\Ag w' a' m c' (packP p leaf).1)/\Below w.heap.size w w':=by
 have hl:=h.l;have hr:=rright_any a n c p w h (by omega);by_cases hrt:rightP p=true
 case neg=>
  rw[UZ hrt];simp only;rw[show rightP p=false from by simpa using hrt]at hr;clear h hl hrt;go_enter func106,ntmps106;go_wp2_with fail;refine hr.mono ?_;rintro e w1⟨rfl,rfl⟩;clear hr;go_wp2_with fail;go_ret2;exact⟨⟨none,0,0,rfl,ag_nil _⟩,Ak _ _⟩
 rw[packP_yes hrt];simp only;rw[hrt]at hr;have hpk:=OQ (p:=p) (leaf:=leaf);rw[Af hrt]at hpk;have hfb:=Le (p:=p) (leaf:=leaf) h.b;rw[hl]at hpk hfb⊢;have hho:=Xar n leaf;have hhl:=hd_len n leaf;have HHL:Hid ((hdP n leaf).length<=2):=XaI (by omega);have HPK:=XaI hpk;have HFB:=XaI hfb;have HAG:=XaI h;have HL:=XaI hl;have HR:=XaI hr;generalize hdP n leaf=hd at*;clear hpk hfb h hl hr hrt hhl;by_cases he:n%2=0
 ·rw[Af he]at hho;have hei:(n:Int)%2=0:=by omega
  have HHO:=XaI hho;clear hho he;cases leaf with
  |true=>
   simp only[if_true]at HHO;go_enter func106,ntmps106;go_wp2_with fail;refine HR.out.mono ?_;rintro e w1⟨rfl,rfl⟩;clear HR
   go_wp2_with (first
    |(at_builtin;refine D8 rfl (.tmp 26) (.tmp 27) rfl w1.heap.size _ [2] rfl (OwnB.alloc (Gx w1 _) _) (some ⟨w1.heap.size+1,0,none⟩) 1 1 [0] rfl (by have:=in0_one (w1.alloc (.cells #[.int .u8 2] 5)) 0;simpa using this) (λh=>by cases h) rfl (by show 1+1<=140737488355328;omega) (by simp;omega) ?_;intro v1 w2 o1 hb1;rw[<-HHO.out]at o1;have HO1:=XaI o1;have HB1:=XaI ((((Ak w1.heap.size w1).alloc (Aa _) _).alloc (by simp) _).trans hb1);clear o1 hb1)
    |(at_builtin;refine D8 rfl (.tmp 29) (.tmp 30) rfl w1.heap.size _ hd rfl HO1.out a n c p rfl (HAG.out.at HB1.out).i HAG.out.nil HAG.out.l (by have:=HHL.out;omega) HB1.out.size ?_;intro v2 w3 o2 hb2;obtain⟨a2,c2,rfl,hag2⟩:=OwnB.ag o2 HFB.out;have HB2:=XaI (HB1.out.trans hb2);have HA2:=XaI hag2;clear o2 hb2 hag2;generalize hgl:(hd++p).length=len2 at HA2⊢;have HGL:=XaI hgl;clear hgl))
   have hk:=JA a2 len2 c2 (hd++p) _ HA2.out (by have h1:=HGL.out;rw[Ab,HL.out]at h1;have:=HHL.out;omega);rw[HPK.out]at hk;simp only at hk;have HK:=XaI hk;clear hk;refine HK.out.mono ?_;rintro e w9⟨⟨a3,m3,c3,rfl,hag3⟩,hb3⟩;have HA3:=XaI hag3;have HB3:=XaI (HB2.out.trans (hb3.mono HB2.out.size));clear hag3 hb3;go_wp2_with fail;go_ret2;exact⟨⟨a3,m3,c3,rfl,HA3.out⟩,HB3.out⟩
  |false=>
   simp only[BT,DQ]at HHO;go_enter func106,ntmps106;go_wp2_with fail;refine HR.out.mono ?_;rintro e w1⟨rfl,rfl⟩;clear HR
   go_wp2_with (first
    |(at_builtin;refine D8 rfl (.tmp 26) (.tmp 27) rfl w1.heap.size _ [0] rfl (OwnB.alloc (Gx w1 _) _) (some ⟨w1.heap.size+1,0,none⟩) 1 1 [0] rfl (by have:=in0_one (w1.alloc (.cells #[.int .u8 0] 5)) 0;simpa using this) (λh=>by cases h) rfl (by show 1+1<=140737488355328;omega) (by simp;omega) ?_;intro v1 w2 o1 hb1;rw[<-HHO.out]at o1;have HO1:=XaI o1;have HB1:=XaI ((((Ak w1.heap.size w1).alloc (Aa _) _).alloc (by simp) _).trans hb1);clear o1 hb1)
    |(at_builtin;refine D8 rfl (.tmp 29) (.tmp 30) rfl w1.heap.size _ hd rfl HO1.out a n c p rfl (HAG.out.at HB1.out).i HAG.out.nil HAG.out.l (by have:=HHL.out;omega) HB1.out.size ?_;intro v2 w3 o2 hb2;obtain⟨a2,c2,rfl,hag2⟩:=OwnB.ag o2 HFB.out;have HB2:=XaI (HB1.out.trans hb2);have HA2:=XaI hag2;clear o2 hb2 hag2;generalize hgl:(hd++p).length=len2 at HA2⊢;have HGL:=XaI hgl;clear hgl))
   have hk:=JA a2 len2 c2 (hd++p) _ HA2.out (by have h1:=HGL.out;rw[Ab,HL.out]at h1;have:=HHL.out;omega);rw[HPK.out]at hk;simp only at hk;have HK:=XaI hk;clear hk;refine HK.out.mono ?_;rintro e w9⟨⟨a3,m3,c3,rfl,hag3⟩,hb3⟩;have HA3:=XaI hag3;have HB3:=XaI (HB2.out.trans (hb3.mono HB2.out.size));clear hag3 hb3;go_wp2_with fail;go_ret2;exact⟨⟨a3,m3,c3,rfl,HA3.out⟩,HB3.out⟩
 ·rw[Ad he]at hho;have hei:(n:Int)%2=1:=by omega
  have HHO:=XaI hho;clear hho he;cases leaf with
  |true=>
   simp only[if_true]at HHO;go_enter func106,ntmps106;go_wp2_with fail;refine HR.out.mono ?_;rintro e w1⟨rfl,rfl⟩;clear HR;have HO1:Hid (OwnB (w1.alloc (.cells #[.int .u8 3] 5)) w1.heap.size (.slice (some ⟨w1.heap.size,0,none⟩) 1 1) hd):=XaI (by rw[HHO.out];exact Gx w1 _);have HB1:Hid (Below w1.heap.size w1 (w1.alloc (.cells #[.int .u8 3] 5))):=XaI (below_new _ _)
   go_wp2_with (first
    |(at_builtin;refine D8 rfl (.tmp 29) (.tmp 30) rfl w1.heap.size _ hd rfl HO1.out a n c p rfl (HAG.out.at HB1.out).i HAG.out.nil HAG.out.l (by have:=HHL.out;omega) HB1.out.size ?_;intro v2 w3 o2 hb2;obtain⟨a2,c2,rfl,hag2⟩:=OwnB.ag o2 HFB.out;have HB2:=XaI (HB1.out.trans hb2);have HA2:=XaI hag2;clear o2 hb2 hag2;generalize hgl:(hd++p).length=len2 at HA2⊢;have HGL:=XaI hgl;clear hgl))
   have hk:=JA a2 len2 c2 (hd++p) _ HA2.out (by have h1:=HGL.out;rw[Ab,HL.out]at h1;have:=HHL.out;omega);rw[HPK.out]at hk;simp only at hk;have HK:=XaI hk;clear hk;refine HK.out.mono ?_;rintro e w9⟨⟨a3,m3,c3,rfl,hag3⟩,hb3⟩;have HA3:=XaI hag3;have HB3:=XaI (HB2.out.trans (hb3.mono HB2.out.size));clear hag3 hb3;go_wp2_with fail;go_ret2;exact⟨⟨a3,m3,c3,rfl,HA3.out⟩,HB3.out⟩
  |false=>
   simp only[BT,DQ]at HHO;go_enter func106,ntmps106;go_wp2_with fail;refine HR.out.mono ?_;rintro e w1⟨rfl,rfl⟩;clear HR;have HO1:Hid (OwnB (w1.alloc (.cells #[.int .u8 1] 5)) w1.heap.size (.slice (some ⟨w1.heap.size,0,none⟩) 1 1) hd):=XaI (by rw[HHO.out];exact Gx w1 _);have HB1:Hid (Below w1.heap.size w1 (w1.alloc (.cells #[.int .u8 1] 5))):=XaI (below_new _ _)
   go_wp2_with (first
    |(at_builtin;refine D8 rfl (.tmp 29) (.tmp 30) rfl w1.heap.size _ hd rfl HO1.out a n c p rfl (HAG.out.at HB1.out).i HAG.out.nil HAG.out.l (by have:=HHL.out;omega) HB1.out.size ?_;intro v2 w3 o2 hb2;obtain⟨a2,c2,rfl,hag2⟩:=OwnB.ag o2 HFB.out;have HB2:=XaI (HB1.out.trans hb2);have HA2:=XaI hag2;clear o2 hb2 hag2;generalize hgl:(hd++p).length=len2 at HA2⊢;have HGL:=XaI hgl;clear hgl))
   have hk:=JA a2 len2 c2 (hd++p) _ HA2.out (by have h1:=HGL.out;rw[Ab,HL.out]at h1;have:=HHL.out;omega);rw[HPK.out]at hk;simp only at hk;have HK:=XaI hk;clear hk;refine HK.out.mono ?_;rintro e w9⟨⟨a3,m3,c3,rfl,hag3⟩,hb3⟩;have HA3:=XaI hag3;have HB3:=XaI (HB2.out.trans (hb3.mono HB2.out.size));clear hag3 hb3;go_wp2_with fail;go_ret2;exact⟨⟨a3,m3,c3,rfl,HA3.out⟩,HB3.out⟩
end Go.Proofs.YtalhnnjpjaeakaaGreat.Ni
namespace Go.Proofs.YtalhnnjpjaeakaaGreat
variable {base gI m c : Nat} {w1 w u : World} {y : V} {x : NV} {a : Option Addr} {pk : List Int}
theorem round_any{wr:World}{it:Value}{ys:List V}(hz:base<=wr.heap.size)(hown:OwnI wr base it ys)(hb1:Below wr.heap.size wr w1)(hlen:ys.length<=1000000000)(ty:TypeId):
 ∃v' w3,(Builtin.append_ #[108,108] ty #[it, .slice (some ⟨w1.heap.size,0,none⟩) 1 1]).run prog (w1.alloc (.cells #[.bool y.l, .slice y.ba y.bn y.bc, .slice y.ia y.m y.ic] 110))= .ok v' w3/\
  OwnI w3 base v' (ys++[y])/\Below base wr w3/\(∀b,wr.heap.size<=b->b<w1.heap.size->w3.heap[b]?=w1.heap[b]?):=by
 obtain⟨Y,hY⟩:∃Y:Obj,Obj.cells #[.bool y.l, .slice y.ba y.bn y.bc, .slice y.ia y.m y.ic] 110=Y:=⟨_,rfl⟩;rw[hY];have hs2:(w1.alloc Y).heap.size=w1.heap.size+1:=by simp
 have hb2:Below wr.heap.size wr (w1.alloc Y):=hb1.alloc hb1.size _;have hz1:=hb1.size;have hblk:(w1.alloc Y).heap[w1.heap.size]?=some Y:=Ai w1 Y;have hnews:∀j u,(V.cells y)[j]?=some u->(w1.alloc Y).cell? ((⟨w1.heap.size,0,none⟩:Addr).add j)=some u:=by
  intro j u hu;rw[BM,AD];rw[<-hY]at hblk⊢;rw[Ae _ _ _ _ _ _ hblk];simpa[V.cells]using hu
 obtain⟨v',w3,hrun,hown3,hgr,hown4⟩:=Je (DZ hown λg _ hg=>hb2.block g hg) y _ 1 hnews (by omega) hlen ty;have hfar:∀b,b<w1.heap.size+1->it.ownBlock≠some b->w3.heap[b]?=(w1.alloc Y).heap[b]?:=λb hb hne=>hgr.block b (by rw[hs2];exact hb) (λh=>hne h.symm);refine⟨v',w3,hrun,hown3,⟨hgr.os.trans hb2.os,hgr.tape.trans hb2.tape,hgr.output.trans hb2.output,Al hb2.size hgr.size,λb hb=>?_⟩,λb h1 h2=>?_⟩
 ·rw[hfar b (by omega) (λh=>by have:=(EX hown h).1;omega)];exact hb2.block b (by omega)
 ·rw[hfar b (by omega) (λh=>by have:=(EX hown h).2;omega),Au _ _ _ h2]
def Pkd(gI base:Nat)(u:World)(a:Option Addr)(m c:Nat)(pk:List Int):Prop:=AgK (λg=>g<base/\g≠gI) u a m c pk
theorem ZW{v:World}{it:Value}(h:En w v x gI it)(hl:∃ia m ic,it= .slice ia m ic)(ha:Ag v a m c pk)(hm:m<=140737488351232):Pkd gI v.heap.size v a m c pk:=by
 refine⟨ha,hm,λg off e h0=>?_⟩;obtain⟨g',off',e',_,_,hc⟩:=ag_head ha h0;rw[e]at e';cases e';have hc0:=hc 0 h0;refine⟨Aj hc0,λhg=>?_⟩;subst hg;rw[Ae _ _ _ _ _ _ h.row]at hc0;obtain⟨ia,m',ic,rfl⟩:=hl
 match off,hc0 with
 |0,h=>simp at h
 |1,h=>simp at h
 |2,h=>simp at h
 |k+3,h=>simp at h
theorem Pkd.lies(h:Pkd gI base u a m c pk):Lies u (.mk false pk []) ⟨false,a,m,c,none,0,0⟩:=
 lies_eq.2 ⟨rfl,h.1,rfl,Aa _,Ay _,⟨h.2.1,Ay _⟩,Ds⟩
theorem Pkd.go{u':World}(h:Pkd gI base u a m c pk)(hb:Below base u u')(it:Value):Pkd gI base (u'.setCell ⟨gI,2,none⟩ it) a m c pk:=
 AgK.go (λg hK hg=>⟨(A8 _ _ _ _ hK.2).trans (hb.block g hK.1),hK⟩) h
theorem Mj{wP:World}(hE:En w wP x gI (.slice none 0 0))(ha:Ag wP a m c pk)(hm:m<=140737488351232)(ty:TypeId):
 ∃v' w3,(Builtin.append_ #[108,108] ty #[.slice none 0 0, .slice (some ⟨wP.heap.size,0,none⟩) 1 1]).run prog (wP.alloc (.cells #[.bool false, .slice a m c, .slice none 0 0] 110))= .ok v' w3/\
  Below (gI+1) wP w3/\(∃ia m ic,v'= .slice ia m ic)/\wP.heap.size<=(w3.setCell ⟨gI,2,none⟩ v').heap.size/\OwnI (w3.setCell ⟨gI,2,none⟩ v') wP.heap.size v' [⟨false,a,m,c,none,0,0⟩]/\Pkd gI wP.heap.size (w3.setCell ⟨gI,2,none⟩ v') a m c pk:=by
 obtain⟨v',w3,h1,h2,h3,_⟩:=round_any (y:=⟨false,a,m,c,none,0,0⟩) (it:= .slice none 0 0) (ys:=[]) (Aa wP.heap.size) (Dk _ _ _ _) (Ak _ _) (by simp) ty;have hgz:=hE.sz;refine⟨v',w3,h1,⟨h3.os,h3.tape,h3.output,h3.size,λk hk=>h3.block k (by omega)⟩,?_,by simpa using h3.size,DZ h2 λg hg _=>A8 _ _ _ _ (by have:=(EX h2 hg).1;show g≠gI;omega),(ZW hE ⟨_,_,_,rfl⟩ ha hm).go h3 v'⟩;rcases h2.2 with⟨e,_⟩|⟨g,cap,cur,e,_⟩
 ·exact⟨_,_,_,e⟩
 ·exact⟨_,_,_,e⟩
theorem Ka{it:Value}(hE:En w u x gI it)(hgb:gI+1<=base)(hz:base<=u.heap.size)(hown:OwnI u base it [⟨false,a,m,c,none,0,0⟩])(hp:Pkd gI base u a m c pk)(hb1:Below u.heap.size u w1){t:T}
 (hy:∀w4,Below w.heap.size w w4->(∀b,u.heap.size<=b->b<w1.heap.size->w4.heap[b]?=w1.heap[b]?)->Lies w4 t y) (ty:TypeId):
 ∃v' w3,(Builtin.append_ #[108,108] ty #[it, .slice (some ⟨w1.heap.size,0,none⟩) 1 1]).run prog (w1.alloc (.cells #[.bool y.l, .slice y.ba y.bn y.bc, .slice y.ia y.m y.ic] 110))= .ok v' w3/\Below (gI+1) u w3/\Full gI w (w3.setCell ⟨gI,2,none⟩ v') v' [.mk false pk [],t]:=by
 obtain⟨v',w3,h1,h2,h3,h4⟩:=round_any (y:=y) hz hown hb1 (by simp) ty;have hB:Below (gI+1) u w3:=⟨h3.os,h3.tape,h3.output,h3.size,λk hk=>h3.block k (by omega)⟩;have hE3:=(hE.go hB).put v';refine⟨v',w3,h1,hB,JY (base:=base) (DZ h2 λg hg _=>A8 _ _ _ _ (by have:=(EX h2 hg).1;show g≠gI;omega)) ⟨(hp.go h3 v').lies,hy _ hE3.bel λb hb hlt=>?_,trivial⟩⟩;exact(A8 _ _ _ _ (by show b≠gI;omega)).trans (h4 b hb hlt)
end Go.Proofs.YtalhnnjpjaeakaaGreat
namespace Go.Proofs.YtalhnnjpjaeakaaGreat
open Ni (packP)
theorem Pkd.drew{gI base:Nat}{u:World}{a:Option Addr}{m c:Nat}{pk:List Int}(h:Pkd gI base u a m c pk):Pkd gI base u.drew a m c pk:=AgK.go (w:=u) (w':=u.drew) (λg hK hg=>⟨rfl,hK⟩) h
theorem WV(K:Nat->Prop)(x:NV)(n:PN)(w:World)(h:NodeAt K w x n)(h1:n.k=1)(hd:∀r,(r=n.c∨r∈n.ks)->r.i.length<32->DDSaid r.i):
 Calls prog 73 #[.agg x.cells.toArray] w (EEPost w n):=by
 have B:=E8 w x h.c.len;have HB:=XaI (below_new w (.cells x.cells.toArray 92));have HH:=XaI h;obtain⟨q,hq⟩:∃q,NR n=q:=⟨_,rfl⟩
 have HR1:=XaI (show∀v,Below w.heap.size w v->Calls prog 104 #[.agg x.cells.toArray] v λe w'=>e= .returned (.bool q)/\Below v.heap.size v w' from λv hv=>by
  rw[<-hq];exact GY K x n v (h.go (Keep.below hv)) hd)
 have HQ:=XaI hq;have hk:x.k=1:=by rw[h.k];exact h1
 have hvn:=h.v.2.1;unfold EEPost;rw[hq];have H1:=XaI h1;clear h hq hd h1;go_enter func73,ntmps73;go_upto_region 1 with fail;refine gen_w (p:=λv=>Code.wp _ _ _ _ v) (q:=λv=>NBx w.heap.size v x/\Below w.heap.size w v) ⟨B,HB.out⟩ ?_;clear B HB;rintro v⟨B,hb⟩;have HB:=XaI hb;have HX:=XaI B;clear hb B;go_wp2_with (first|refine CF rfl _ rfl w.heap.size rfl x HX.out ?_);refine(HR1.out v HB.out).mono ?_;rintro e w1⟨rfl,hb1⟩;have HX1:=XaI (HX.out.go hb1);have HB1:=XaI (below_go HB.out hb1);clear hb1 HX HB;cases q with
 |false=>
  go_wp2_with fail;go_ret2;exact⟨⟨none,0,0,rfl,⟨.inl ⟨rfl,rfl⟩,λ_=>⟨rfl,rfl⟩,rfl,λx hx=>by cases hx⟩,λg off h=>by cases h⟩,HB1.out⟩
 |true=>
  obtain⟨b1,b2,b3⟩:=EZ HH.out.okN HQ.out;have HM:=XaI b1;have HPL:=XaI (LW HQ.out).2;have hpn:x.pn<=1000:=by rw[<-HH.out.p.l];exact HPL.out
  have HLT:=XaI (show w.heap.size<w1.heap.size from(BF.1 HX1.out.row).1);clear b1 b2 b3;go_upto_region 5 with fail;obtain⟨gI,hgI⟩:∃gI,w1.heap.size=gI:=⟨_,rfl⟩;refine gen_w (p:=λv=>Code.wp _ _ _ _ v) (q:=λv=>En w v x gI (.slice none 0 0)) ⟨by rw[<-hgI];exact Ai _ _,HX1.out.go (below_new _ _),below_go HB1.out (below_new _ _),by rw[<-hgI];exact HLT.out,by simp[hgI]⟩ ?_;intro v2 E2;rw[hgI];have c0:=E2.bx.c0;have c1:=E2.bx.c1;rw[hk]at c0;have HE2:=XaI E2;clear E2 HX1 HB1 HLT hgI;have HPK:=XaI (Ni.rpack_any x.pa x.pn x.pc n.p true v2 (HH.out.p.1.at HE2.out.bel) (by omega));obtain⟨pk,hpk⟩:∃pk,(packP n.p true).1=pk:=⟨_,rfl⟩;rw[hpk]at HPK;have HPKE:=XaI hpk
  have HPKL:=XaI (show pk.length<=1000 from by
   rw[<-hpk];unfold packP;split
   ·dsimp only;rw[Ni.pack_len];have:=HPL.out;omega
   ·simp)
  obtain⟨per,hper⟩:∃per:Nat,(packP n.p true).2=per:=⟨_,rfl⟩;rw[hper]at HPK;clear hpk hper;go_wp2_with fail;refine HPK.out.mono ?_;rintro e wP⟨⟨a',m,c',rfl,hag⟩,hbP⟩;have hEP:=HE2.out.all hbP;have d2:=hEP.c2;have df:=hEP.fz;obtain⟨it,w3,hrun,hb3,hsl,hz4,how4,hpd4⟩:=Mj hEP hag (by have:=hag.l;have:=HPKL.out;omega) 108;have HGB:=XaI hEP.sz;have hE3:=hEP.go hb3;have f2:=hE3.c2;have ff:=hE3.fz;have HE4:=XaI (hE3.put it);obtain⟨ja,jm,jc,hit⟩:=hsl;have HIT:=XaI hit;have HZ4:=XaI hz4;have HOW4:=XaI how4;have HPD4:=XaI hpd4;rw[hit]at hrun;have HRUN:=XaI hrun;clear hag hbP hrun hb3 hz4 how4 hpd4 hE3 hEP hit c0 c1 HPK HE2;go_upto_region 13 with(first|refine Er rfl _ _ rfl _ _ rfl rfl HRUN.out ?_);rw[<-HIT.out];generalize w3.setCell ⟨gI,2,none⟩ it=u4 at HE4 HZ4 HOW4 HPD4⊢;have g0:=HE4.out.bx.c0;rw[hk]at g0;clear d2 df f2 ff HRUN;have d2:=HE4.out.c2;have e2:=HE4.out.bx.c2;have ef:=HE4.out.fz;obtain⟨v',w3,hrun,hb3,hfull⟩:=Ka (t:= .mk false n.v []) (y:=⟨false,x.va,x.vn,x.vc,none,0,0⟩) HE4.out HGB.out HZ4.out HOW4.out HPD4.out (Ak _ _) (λw4 h4 _=>Cg h4 _ _ (lies_eq.2 ⟨rfl,HH.out.v.1,rfl,Aa _,Ay _,⟨HH.out.v.2.1,Ay _⟩,Ds⟩)) 108;have hE5:=HE4.out.go hb3;have f2:=hE5.c2;have ff:=hE5.fz;have HE5:=XaI (hE5.put v');obtain⟨ia,m',ic,hv',hen⟩:=Hg (n:=n) hfull (by simp) (by unfold itemP;rw[H1.out,Ad (by decide),Af rfl,HPKE.out]) HM.out;subst hv';have HRUN:=XaI hrun;clear hrun hb3 hfull hE5;go_upto_region 16 with(first|refine Er rfl _ _ rfl _ _ rfl rfl HRUN.out ?_);generalize w3.setCell ⟨gI,2,none⟩ (.slice ia m' ic)=u5 at HE5 hen⊢;clear d2 e2 ef f2 ff;have HEN:=XaI hen;clear hen;have k0:=HE5.out.c0;have k1:=HE5.out.c1;have k2:=HE5.out.c2;go_wp2_with fail;refine HEN.out.mono ?_;rintro e w5⟨⟨a,m5,c5,rfl,hag,hnw⟩,hb5⟩;have HAG:=XaI hag;have HNW:=XaI (hnw.mono HE5.out.bel.size);have HB5:=XaI (below_go HE5.out.bel hb5);clear hag hb5 hnw;go_wp2_with fail;go_ret2;exact⟨⟨a,m5,c5,rfl,HAG.out,HNW.out⟩,HB5.out⟩
theorem WW(K:Nat->Prop)(x:NV)(n:PN)(w:World)(h:NodeAt K w x n)(h2:n.k=2)(hd:∀r,(r=n.c∨r∈n.ks)->r.i.length<32->DDSaid r.i):
 Calls prog 73 #[.agg x.cells.toArray] w (EEPost w n):=by
 have B:=E8 w x h.c.len;have HB:=XaI (below_new w (.cells x.cells.toArray 92));have HH:=XaI h;obtain⟨q,hq⟩:∃q,NR n=q:=⟨_,rfl⟩
 have HR1:=XaI (show∀v,Below w.heap.size w v->Calls prog 104 #[.agg x.cells.toArray] v λe w'=>e= .returned (.bool q)/\Below v.heap.size v w' from λv hv=>by
  rw[<-hq];exact GY K x n v (h.go (Keep.below hv)) hd)
 have HQ:=XaI hq;have hk:x.k=2:=by rw[h.k];exact h2
 have hvn:=h.v.2.1;unfold EEPost;rw[hq];have H2:=XaI h2;clear h hq hd h2;go_enter func73,ntmps73;go_upto_region 1 with fail;refine gen_w (p:=λv=>Code.wp _ _ _ _ v) (q:=λv=>NBx w.heap.size v x/\Below w.heap.size w v) ⟨B,HB.out⟩ ?_;clear B HB;rintro v⟨B,hb⟩;have HB:=XaI hb;have HX:=XaI B;clear hb B;go_wp2_with (first|refine CF rfl _ rfl w.heap.size rfl x HX.out ?_);refine(HR1.out v HB.out).mono ?_;rintro e w1⟨rfl,hb1⟩;have HX1:=XaI (HX.out.go hb1);have HB1:=XaI (below_go HB.out hb1);clear hb1 HX HB;cases q with
 |false=>
  go_wp2_with fail;go_ret2;exact⟨⟨none,0,0,rfl,⟨.inl ⟨rfl,rfl⟩,λ_=>⟨rfl,rfl⟩,rfl,λx hx=>by cases hx⟩,λg off h=>by cases h⟩,HB1.out⟩
 |true=>
  obtain⟨b1,b2,b3⟩:=EZ HH.out.okN HQ.out;have HM:=XaI b1;have HPL:=XaI (LW HQ.out).2;have hpn:x.pn<=1000:=by rw[<-HH.out.p.l];exact HPL.out
  have HLT:=XaI (show w.heap.size<w1.heap.size from(BF.1 HX1.out.row).1);clear b1 b2 b3;go_upto_region 5 with fail;obtain⟨gI,hgI⟩:∃gI,w1.heap.size=gI:=⟨_,rfl⟩;refine gen_w (p:=λv=>Code.wp _ _ _ _ v) (q:=λv=>En w v x gI (.slice none 0 0)) ⟨by rw[<-hgI];exact Ai _ _,HX1.out.go (below_new _ _),below_go HB1.out (below_new _ _),by rw[<-hgI];exact HLT.out,by simp[hgI]⟩ ?_;intro v2 E2;rw[hgI];have c0:=E2.bx.c0;have c1:=E2.bx.c1;rw[hk]at c0;have HE2:=XaI E2;clear E2 HX1 HB1 HLT hgI;have HPK:=XaI (Ni.rpack_any x.pa x.pn x.pc n.p false v2 (HH.out.p.1.at HE2.out.bel) (by omega));obtain⟨pk,hpk⟩:∃pk,(packP n.p false).1=pk:=⟨_,rfl⟩;rw[hpk]at HPK;have HPKE:=XaI hpk
  have HPKL:=XaI (show pk.length<=1000 from by
   rw[<-hpk];unfold packP;split
   ·dsimp only;rw[Ni.pack_len];have:=HPL.out;omega
   ·simp)
  obtain⟨per,hper⟩:∃per:Nat,(packP n.p false).2=per:=⟨_,rfl⟩;rw[hper]at HPK;clear hpk hper;go_wp2_with fail;refine HPK.out.mono ?_;rintro e wP⟨⟨a',m,c',rfl,hag⟩,hbP⟩;have hEP:=HE2.out.all hbP;have d2:=hEP.c2;have df:=hEP.fz;obtain⟨it,w3,hrun,hb3,hsl,hz4,how4,hpd4⟩:=Mj hEP hag (by have:=hag.l;have:=HPKL.out;omega) 108;have HGB:=XaI hEP.sz;have hE3:=hEP.go hb3;have f2:=hE3.c2;have ff:=hE3.fz;have HE4:=XaI (hE3.put it);obtain⟨ja,jm,jc,hit⟩:=hsl;have HIT:=XaI hit;have HZ4:=XaI hz4;have HOW4:=XaI how4;have HPD4:=XaI hpd4;rw[hit]at hrun;have HRUN:=XaI hrun;clear hag hbP hrun hb3 hz4 how4 hpd4 hE3 hEP hit c0 c1 HPK HE2;go_upto_region 13 with(first|refine Er rfl _ _ rfl _ _ rfl rfl HRUN.out ?_);rw[<-HIT.out];generalize w3.setCell ⟨gI,2,none⟩ it=u4 at HE4 HZ4 HOW4 HPD4⊢;have g0:=HE4.out.bx.c0;rw[hk]at g0;clear d2 df f2 ff HRUN;go_upto_region 15 with fail;rename_i KK hkk;refine BV (S:=λv'=>NBx w.heap.size v' x/\Below w.heap.size w v') (by kernel_rfl) ⟨⟨HE4.out.bx.row,HE4.out.bx.l⟩,HE4.out.bel.drew⟩ (λhS=>?_);have hE0:=HE4.out.drew;refine Bh 0 69 (.pointer (some ⟨gI,2,none⟩)) rfl rfl (by kernel_rfl) (by kernel_rfl) (by kernel_rfl) (λ_ _ _ h=>h) (by kernel_rfl) (λv _=>by kernel_rfl) hS<|Bh 2 71 (.pointer (some ⟨w.heap.size,3,none⟩)) rfl rfl (by kernel_rfl) (by kernel_rfl) (by kernel_rfl) (λ_ _ _ h=>h) (by kernel_rfl) (λv _=>by kernel_rfl) hS<|Bh 3 72 (.agg x.c.cells.toArray) rfl rfl (by kernel_rfl) (by kernel_rfl) (by kernel_rfl) (λ_ _ _ h=>h) (by kernel_rfl) (λv' hv=>Gs rfl (by kernel_rfl) HH.out.c.len hv.1.child) hS<|AA (rs:=[1,4]) (by kernel_rfl) (by simp) ?_;refine CH 1 70 it rfl rfl (by kernel_rfl) (CT rfl (by kernel_rfl) hE0.c2) hS ?_ ?_
  ·refine AA (rs:=[4]) (by kernel_rfl) (by simp) ?_;refine Ek 4 73 rfl rfl (by kernel_rfl) 105 #[.agg x.c.cells.toArray] (by kernel_rfl) (R:=λval w'=>Below u4.drew.heap.size u4.drew w'/\∃z:V,val= .agg #[.bool z.l, .slice z.ba z.bn z.bc, .slice z.ia z.m z.ic]/\LiesP (λb=>u4.drew.heap.size<=b) w' (refItemP n.c) z) ((Iu K x.c n.c u4.drew (HH.out.c.go (Keep.below hS.2))).mono (λe w' h=>DU h (Aa _))) (λval w' h=>⟨hS.1.go h.1,below_go hS.2 h.1⟩) ?_ A7;rintro val u1⟨hb1,z,rfl,hz⟩;have hS1:NBx w.heap.size u1 x/\Below w.heap.size w u1:=⟨hS.1.go hb1,below_go hS.2 hb1⟩;have hE1:=hE0.all hb1;obtain⟨v',w3,hrun,hb3,hfull⟩:=Ka (t:=refItemP n.c) (y:=z) hE0 HGB.out HZ4.out (DZ HOW4.out λg _ hlt=>rfl) HPD4.out.drew hb1 (λw4 _ h4=>CX _ _ (Bz (Q:=λ_=>True) (λb hb hlt=>⟨h4 b hb hlt,trivial⟩) _ _ hz)) 108;have hE2:En w (u1.alloc (.cells #[.bool z.l, .slice z.ba z.bn z.bc, .slice z.ia z.m z.ic] 110)) x gI it:=hE1.all (below_new _ _);have hE3:=hE0.go hb3;have hE5:=hE3.put v';refine AA (rs:=[5]) (by kernel_rfl) (by simp) ?_;refine CH 5 74 (.slice (some ⟨u1.heap.size,0,none⟩) 1 1) rfl rfl (by kernel_rfl) (FF rfl z (by kernel_rfl)) ⟨hE2.bx,hE2.bel⟩ ?_ A7;refine AA (rs:=[6]) (by kernel_rfl) (by simp) ?_;refine CH 6 75 v' rfl rfl (by kernel_rfl) (Iz rfl it (.slice (some ⟨u1.heap.size,0,none⟩) 1 1) (by kernel_rfl) (by kernel_rfl) hrun) ⟨hE3.bx,hE3.bel⟩ ?_ A7;refine Bh 7 76 (.pointer (some ⟨gI,2,none⟩)) rfl rfl (by kernel_rfl) (by kernel_rfl) (by kernel_rfl) (λ_ _ _ h=>h) (by kernel_rfl) (λv _=>by kernel_rfl) ⟨hE3.bx,hE3.bel⟩<|AA (rs:=[8]) (by kernel_rfl) (by simp) ?_;refine DE 8 rfl rfl (by kernel_rfl) (FG rfl gI v' it (by obtain⟨ia,ic,e,_⟩:=hfull;exact⟨_,_,_,e⟩) (by kernel_rfl) (by kernel_rfl) hE3.c2 hE3.fz) ⟨hE5.bx,hE5.bel⟩ ?_ A7;refine Cj (by kernel_rfl) ?_ _;refine hkk _ _ ?_;have HE5:=XaI hE5;obtain⟨ia,m',ic,hv',hen⟩:=Hg (n:=n) hfull (by simp) (by unfold itemP;rw[H2.out,Ad (by decide),Ad (by decide),HPKE.out]) HM.out;subst hv';clear hE5 hE3 hE2 hE1 hE0 hS hS1 hfull hb3 hrun hz hb1 hkk;generalize w3.setCell ⟨gI,2,none⟩ (.slice ia m' ic)=u5 at HE5 hen⊢
   go_frame
   have HEN:=XaI hen;clear hen;have k0:=HE5.out.c0;have k1:=HE5.out.c1;have k2:=HE5.out.c2;go_wp2_with fail;refine HEN.out.mono ?_;rintro e w5⟨⟨a,m5,c5,rfl,hag,hnw⟩,hb5⟩;have HAG:=XaI hag;have HNW:=XaI (hnw.mono HE5.out.bel.size);have HB5:=XaI (below_go HE5.out.bel hb5);clear hag hb5 hnw;go_wp2_with fail;go_ret2;exact⟨⟨a,m5,c5,rfl,HAG.out,HNW.out⟩,HB5.out⟩
  refine Ek 4 73 rfl rfl (by kernel_rfl) 105 #[.agg x.c.cells.toArray] (by kernel_rfl) (R:=λval w'=>Below u4.drew.heap.size u4.drew w'/\∃z:V,val= .agg #[.bool z.l, .slice z.ba z.bn z.bc, .slice z.ia z.m z.ic]/\LiesP (λb=>u4.drew.heap.size<=b) w' (refItemP n.c) z) ((Iu K x.c n.c u4.drew (HH.out.c.go (Keep.below hS.2))).mono (λe w' h=>DU h (Aa _))) (λval w' h=>⟨hS.1.go h.1,below_go hS.2 h.1⟩) ?_ A7;rintro val u1⟨hb1,z,rfl,hz⟩;have hS1:NBx w.heap.size u1 x/\Below w.heap.size w u1:=⟨hS.1.go hb1,below_go hS.2 hb1⟩;have hE1:=hE0.all hb1;obtain⟨v',w3,hrun,hb3,hfull⟩:=Ka (t:=refItemP n.c) (y:=z) hE0 HGB.out HZ4.out (DZ HOW4.out λg _ hlt=>rfl) HPD4.out.drew hb1 (λw4 _ h4=>CX _ _ (Bz (Q:=λ_=>True) (λb hb hlt=>⟨h4 b hb hlt,trivial⟩) _ _ hz)) 108;have hE2:En w (u1.alloc (.cells #[.bool z.l, .slice z.ba z.bn z.bc, .slice z.ia z.m z.ic] 110)) x gI it:=hE1.all (below_new _ _);have hE3:=hE0.go hb3;have hE5:=hE3.put v';refine AA (rs:=[1,5]) (by kernel_rfl) (by simp) ?_;refine CH 1 70 it rfl rfl (by kernel_rfl) (CT rfl (by kernel_rfl) hE1.c2) hS1 ?_ ?_
  ·refine AA (rs:=[5]) (by kernel_rfl) (by simp) ?_;refine CH 5 74 (.slice (some ⟨u1.heap.size,0,none⟩) 1 1) rfl rfl (by kernel_rfl) (FF rfl z (by kernel_rfl)) ⟨hE2.bx,hE2.bel⟩ ?_ A7;refine AA (rs:=[6]) (by kernel_rfl) (by simp) ?_;refine CH 6 75 v' rfl rfl (by kernel_rfl) (Iz rfl it (.slice (some ⟨u1.heap.size,0,none⟩) 1 1) (by kernel_rfl) (by kernel_rfl) hrun) ⟨hE3.bx,hE3.bel⟩ ?_ A7;refine Bh 7 76 (.pointer (some ⟨gI,2,none⟩)) rfl rfl (by kernel_rfl) (by kernel_rfl) (by kernel_rfl) (λ_ _ _ h=>h) (by kernel_rfl) (λv _=>by kernel_rfl) ⟨hE3.bx,hE3.bel⟩<|AA (rs:=[8]) (by kernel_rfl) (by simp) ?_;refine DE 8 rfl rfl (by kernel_rfl) (FG rfl gI v' it (by obtain⟨ia,ic,e,_⟩:=hfull;exact⟨_,_,_,e⟩) (by kernel_rfl) (by kernel_rfl) hE3.c2 hE3.fz) ⟨hE5.bx,hE5.bel⟩ ?_ A7;refine Cj (by kernel_rfl) ?_ _;refine hkk _ _ ?_;have HE5:=XaI hE5;obtain⟨ia,m',ic,hv',hen⟩:=Hg (n:=n) hfull (by simp) (by unfold itemP;rw[H2.out,Ad (by decide),Ad (by decide),HPKE.out]) HM.out;subst hv';clear hE5 hE3 hE2 hE1 hE0 hS hS1 hfull hb3 hrun hz hb1 hkk;generalize w3.setCell ⟨gI,2,none⟩ (.slice ia m' ic)=u5 at HE5 hen⊢
   go_frame
   have HEN:=XaI hen;clear hen;have k0:=HE5.out.c0;have k1:=HE5.out.c1;have k2:=HE5.out.c2;go_wp2_with fail;refine HEN.out.mono ?_;rintro e w5⟨⟨a,m5,c5,rfl,hag,hnw⟩,hb5⟩;have HAG:=XaI hag;have HNW:=XaI (hnw.mono HE5.out.bel.size);have HB5:=XaI (below_go HE5.out.bel hb5);clear hag hb5 hnw;go_wp2_with fail;go_ret2;exact⟨⟨a,m5,c5,rfl,HAG.out,HNW.out⟩,HB5.out⟩
  refine CH 5 74 (.slice (some ⟨u1.heap.size,0,none⟩) 1 1) rfl rfl (by kernel_rfl) (FF rfl z (by kernel_rfl)) ⟨hE2.bx,hE2.bel⟩ ?_ A7;refine AA (rs:=[1]) (by kernel_rfl) (by simp) ?_;refine CH 1 70 it rfl rfl (by kernel_rfl) (CT rfl (by kernel_rfl) hE2.c2) ⟨hE2.bx,hE2.bel⟩ ?_ A7;refine AA (rs:=[6]) (by kernel_rfl) (by simp) ?_;refine CH 6 75 v' rfl rfl (by kernel_rfl) (Iz rfl it (.slice (some ⟨u1.heap.size,0,none⟩) 1 1) (by kernel_rfl) (by kernel_rfl) hrun) ⟨hE3.bx,hE3.bel⟩ ?_ A7;refine Bh 7 76 (.pointer (some ⟨gI,2,none⟩)) rfl rfl (by kernel_rfl) (by kernel_rfl) (by kernel_rfl) (λ_ _ _ h=>h) (by kernel_rfl) (λv _=>by kernel_rfl) ⟨hE3.bx,hE3.bel⟩<|AA (rs:=[8]) (by kernel_rfl) (by simp) ?_;refine DE 8 rfl rfl (by kernel_rfl) (FG rfl gI v' it (by obtain⟨ia,ic,e,_⟩:=hfull;exact⟨_,_,_,e⟩) (by kernel_rfl) (by kernel_rfl) hE3.c2 hE3.fz) ⟨hE5.bx,hE5.bel⟩ ?_ A7;refine Cj (by kernel_rfl) ?_ _;refine hkk _ _ ?_;have HE5:=XaI hE5;obtain⟨ia,m',ic,hv',hen⟩:=Hg (n:=n) hfull (by simp) (by unfold itemP;rw[H2.out,Ad (by decide),Ad (by decide),HPKE.out]) HM.out;subst hv';clear hE5 hE3 hE2 hE1 hE0 hS hS1 hfull hb3 hrun hz hb1 hkk;generalize w3.setCell ⟨gI,2,none⟩ (.slice ia m' ic)=u5 at HE5 hen⊢
  go_frame
  have HEN:=XaI hen;clear hen;have k0:=HE5.out.c0;have k1:=HE5.out.c1;have k2:=HE5.out.c2;go_wp2_with fail;refine HEN.out.mono ?_;rintro e w5⟨⟨a,m5,c5,rfl,hag,hnw⟩,hb5⟩;have HAG:=XaI hag;have HNW:=XaI (hnw.mono HE5.out.bel.size);have HB5:=XaI (below_go HE5.out.bel hb5);clear hag hb5 hnw;go_wp2_with fail;go_ret2;exact⟨⟨a,m5,c5,rfl,HAG.out,HNW.out⟩,HB5.out⟩
theorem U7(K:Nat->Prop)(x:NV)(n:PN)(w:World)(h:NodeAt K w x n)(hk:n.k=1∨n.k=2∨n.k=3)(hd:∀r,(r=n.c∨r∈n.ks)->r.i.length<32->DDSaid r.i):
 Calls prog 73 #[.agg x.cells.toArray] w (EEPost w n):=by
 rcases hk with hk|hk|hk
 ·exact WV K x n w h hk hd
 ·exact WW K x n w h hk hd
 ·exact WR K x n w h hk hd
end Go.Proofs.YtalhnnjpjaeakaaGreat
namespace Go.Proofs.YtalhnnjpjaeakaaGreat
variable {j : Nat}
theorem U8(K:Nat->Prop)(x:NV)(n:PN)(w:World)(h:NodeAt K w x n)(hq:NR n=false)(hd:∀r,(r=n.c∨r∈n.ks)->r.i.length<32->DDSaid r.i):
 Calls prog 73 #[.agg x.cells.toArray] w (EEPost w n):=by
 have B:=E8 w x h.c.len;have HB:=XaI (below_new w (.cells x.cells.toArray 92))
 have HR1:=XaI (show∀v,Below w.heap.size w v->Calls prog 104 #[.agg x.cells.toArray] v λe w'=>e= .returned (.bool false)/\Below v.heap.size v w' from λv hv=>by
  rw[<-hq];exact GY K x n v (h.go (Keep.below hv)) hd)
 unfold EEPost;rw[hq];clear h hq hd;go_enter func73,ntmps73;go_upto_region 1 with fail;refine gen_w (p:=λv=>Code.wp _ _ _ _ v) (q:=λv=>NBx w.heap.size v x/\Below w.heap.size w v) ⟨B,HB.out⟩ ?_;clear B HB;rintro v⟨B,hb⟩;have HB:=XaI hb;have HX:=XaI B;clear hb B;go_wp2_with (first|refine CF rfl _ rfl w.heap.size rfl x HX.out ?_);refine(HR1.out v HB.out).mono ?_;rintro e w1⟨rfl,hb1⟩;have HB1:=XaI (below_go HB.out hb1);clear hb1 HX HB;go_wp2_with fail;go_ret2;exact⟨⟨none,0,0,rfl,⟨.inl ⟨rfl,rfl⟩,λ_=>⟨rfl,rfl⟩,rfl,λx hx=>by cases hx⟩,λg off h=>by cases h⟩,HB1.out⟩
theorem GF(K:Nat->Prop)(x:NV)(n:PN)(w:World)(h:NodeAt K w x n)(hd:∀r,(r=n.c∨r∈n.ks)->r.i.length<32->DDSaid r.i):
 Calls prog 73 #[.agg x.cells.toArray] w (EEPost w n):=by
 cases hq:NR n with
 |false=>exact U8 K x n w h hq hd
 |true=>exact U7 K x n w h (Oh hq) hd
def drefP(t:T):PR:=if t.l=true then⟨1,z32,(encP t).1⟩else if t.bs.length=32 then⟨2,t.bs,[]⟩else r0
def DRPost(w:World)(r:PR):Ending->World->Prop:=λe w'=>(∃y:RV,e= .returned (.agg y.cells.toArray)/\RefAt (λg=>w.heap.size<g) w' y r)/\Below w.heap.size w w'
theorem YG{bs:List Int}(hl:bs.length=32)(hj:j<32):(bs.take j++List.replicate (32-j) 0).set j (bs.getD j 0)=bs.take (j+1)++List.replicate (32-(j+1)) 0:=by
 have ht:(bs.take j).length=j:=by rw[Ap];omega
 rw[DA _ _ (by omega),ht,Cx,show 32-j=(32-(j+1))+1 from by omega,List.replicate_succ,List.set_cons_zero,BQ,Ac (by omega),AE];simp[List.getD,Ac (show j<bs.length by omega)]
theorem U9{k:Int}{d:List Int}{a:Option Addr}{n c:Nat}{b:Int}(hj:j<d.length):(RV.cells ⟨k,d,a,n,c⟩).toArray.setIfInBounds (1+j) (.int .u8 b)=(RV.cells ⟨k,d.set j b,a,n,c⟩).toArray:=by
 rw[D6];congr 1;rw[RV.cells,RV.cells,Nat.add_comm 1 j,EH,List.set_append_left _ _ (by simpa using hj),List.map_set]
theorem Mk(t:T)(x:V)(w:World)(h:Lies w t x):
 Calls prog 149 #[.agg #[.bool x.l, .slice x.ba x.bn x.bc, .slice x.ia x.m x.ic]] w (DRPost w (drefP t)):=by
 obtain⟨l,bs,its⟩:=t;obtain⟨hl,hag,-⟩:=lies_eq.1 h;have hbn:x.bn<=140737488351232:=(lies_eq.1 h).2.2.2.2.2.1.1;subst hl;have HX:=XaI h;have HAG:=XaI hag;obtain⟨res,hres⟩:∃res,drefP (.mk x.l bs its)=res:=⟨_,rfl⟩;rw[hres];have hres:(if x.l=true then(⟨1,z32,(encP (.mk x.l bs its)).1⟩:PR)else if bs.length=32 then⟨2,bs,[]⟩else r0)=res:=hres;rw[hag.l]at hres;have HRES:=XaI hres;have HRR:=XaI (Wh w x);clear h hag hres;go_enter func149,ntmps149;go_upto_region 1 with fail;refine gen_w (p:=λv=>Code.wp _ _ _ _ v) (q:=λv=>Rr w v x) HRR.out ?_;clear HRR;intro v RR;have c0:=RR.bx.c0;have c1:=RR.bx.c1;have c2:=RR.bx.c2;have HRR:=XaI RR;clear RR;by_cases hxl:x.l=true
 ·have hE:=K8 (.mk x.l bs its) x v (Cg HRR.out.bel _ x HX.out);have hres:=HRES.out;rw[Af hxl]at hres
  have HF:=XaI (show(encP (.mk x.l bs its)).1.length<=16777220 from by
   by_cases hm:(mP (.mk x.l bs its)).2=0
   ·rw[Gr hm];exact VQ hm
   ·rw[Ol hm];simp)
  obtain⟨en,hen⟩:∃en,(encP (.mk x.l bs its)).1=en:=⟨_,rfl⟩;rw[hen]at hE HF hres;subst hres;obtain⟨er,her⟩:∃er,(encP (.mk x.l bs its)).2=er:=⟨_,rfl⟩;rw[her]at hE;clear hen her;rw[hxl]at c0 hE;have HE2:=XaI hE;clear hE HRES;go_wp2_with fail;refine HE2.out.mono ?_;rintro e w1⟨⟨a,n,c,rfl,hag,hnw⟩,hb⟩;have R1:=HRR.out.go hb;have HAGK:=XaI (show AgK (λg=>w.heap.size+2<=g) w1 a n c en from⟨hag,by have:=hag.l;have:=HF.out;omega,λg off e _=>by have:=hnw (by first|exact trivial|rfl) g off e;have:=HRR.out.sz;omega⟩);have HR1:=XaI R1;have hl32:z32.length=32:=rfl;clear hag hb R1 hnw;go_wp2_with (first|refine A4 rfl 62 _ _ rfl _ (RV.cells ⟨1,z32,a,n,c⟩).toArray rfl rfl 62 _ HR1.out.row (Da rfl) (Dr rfl) (Am (RV.one _)) ?_);refine Ao (AZ results149 _ _ (w.heap.size+1) 62 _ (0,0) _ rfl (A9 _ _ _ _ _ _ HR1.out.row) underlying62 rfl (Da (y:=⟨1,z32,a,n,c⟩) rfl)) rfl ?_;exact⟨⟨⟨1,z32,a,n,c⟩,rfl,rfl,rfl,Jv,rfl,HAGK.out.go (λg hK _=>⟨AW _ _ _ _ (by omega),by omega⟩)⟩,Below.setRow HR1.out.bel (by omega) _⟩
 ·have hres:=HRES.out;rw[Ad hxl]at hres;have hxf:x.l=false:=by simpa using hxl
  rw[hxf]at c0;clear hxf hxl HRES HX;by_cases h32:x.bn=32
  ·rw[Af h32]at hres;subst hres;have hz:=HAG.out;rw[h32]at hz c1;obtain⟨g,off,hba,hnc,hcm,hcs⟩:=ag_head hz (by omega);unfold maxLen at hcm;rw[hba]at c1;have HBL:=XaI hz.l;have HBB:=XaI hz.b;have HCS:=XaI (show∀u,Below w.heap.size w u->∀j,j<32->u.cell? ⟨g,off+j,none⟩=some (.int .u8 (bs.getD j 0))from λu hu j hj=>AM hu (hcs j hj));have HRB:=XaI hba;have HR32:=XaI h32;have HVS:=XaI HRR.out.sz;clear hz hcs h32 hba;go_upto_region 6 with(first|refine A4 rfl 62 _ _ rfl _ (RV.cells ⟨2,z32,none,0,0⟩).toArray rfl rfl 62 _ (Ai _ _) (Da rfl) (Dr rfl) (Am (RV.one _)) ?_);obtain⟨gB,hgB⟩:∃gB,v.heap.size=gB:=⟨_,rfl⟩;refine gen_w (p:=λv=>Code.wp _ _ _ _ v) (q:=λu=>RBx gB u ⟨2,z32,none,0,0⟩/\Rr w u x) ⟨⟨by rw[<-hgB];exact A9 _ _ _ _ _ _ (Ai _ _),rfl⟩,HRR.out.go (Below.setRow (below_new v _) (Aa _) _)⟩ ?_;rintro u0⟨B2,R2⟩;rw[hgB]at HVS⊢;have HB0:=XaI B2;have HR0:=XaI R2;clear B2 R2 hgB c0 c1 c2 HRR;go_wp2_with fail
   go_loopw [6] (λs6 u=>∃j:Nat,j<=32/\s6= .int .i64 j/\RBx gB u ⟨2,bs.take j++List.replicate (32-j) 0,none,0,0⟩/\Rr w u x) (λs6 _=>32-(intOf s6).toNat)
   case atStart=>exact⟨0,by omega,rfl,HB0.out,HR0.out⟩
   case round=>
    obtain⟨j,hj,rfl,hB,hR⟩:=hrel;have HB:=XaI hB;have HR:=XaI hR;clear hB hR HB0 HR0;by_cases hlt:j<32
    ·have hji:(j:Int)<32:=(by omega);have d1:=HR.out.bx.c1;rw[HRB.out,HR32.out]at d1;have hc:=HCS.out _ HR.out.bel j hlt;have hf:=HB.out.fz;obtain⟨old,hold⟩:∃old,wr.cell? ⟨gB,1+j,none⟩=some old:=by
      rw[HB.out.at];exact⟨_,Ac (by rw[RV.len HB.out.l];omega)⟩
     have HPUT:=XaI (show RBx gB (wr.setCell ⟨gB,1+j,none⟩ (.int .u8 (bs.getD j 0))) ⟨2,bs.take (j+1)++List.replicate (32-(j+1)) 0,none,0,0⟩from by
      have hll:=HB.out.l;have e:=AN wr gB (1+j) _ 62 (.int .u8 (bs.getD j 0)) HB.out.row;rw[U9 (d:=bs.take j++List.replicate (32-j) 0) (Nat.lt_of_lt_of_eq hlt hll.symm),YG HBL.out hlt]at e;exact⟨e,by show(bs.take (j+1)++List.replicate (32-(j+1)) 0).length=32;rw[Ab,Ap,Bj,HBL.out];omega⟩)
     have HRP:=XaI (show Rr w (wr.setCell ⟨gB,1+j,none⟩ (.int .u8 (bs.getD j 0))) x from by
      have hv:=HVS.out;have ho:∀k,k≠gB->(wr.setCell ⟨gB,1+j,none⟩ (.int .u8 (bs.getD j 0))).heap[k]?=wr.heap[k]?:=λk hk=>A8 _ _ _ _ hk;have hcl:∀o,(wr.setCell ⟨gB,1+j,none⟩ (.int .u8 (bs.getD j 0))).cell? ⟨w.heap.size,o,none⟩=wr.cell? ⟨w.heap.size,o,none⟩:=λo=>Aq (ho w.heap.size (by omega));exact⟨(ho _ (by omega)).trans HR.out.row,⟨(hcl _).trans HR.out.bx.c0,(hcl _).trans HR.out.bx.c1,(hcl _).trans HR.out.bx.c2⟩,HR.out.bel.setCell (by show w.heap.size<=gB;omega) _,by simpa using HR.out.sz⟩)
     have hjl:j<bs.length:=(by have:=HBL.out;omega);have hbb:=HBB.out (bs.getD j 0) (by simp[List.getD,Ac hjl]);clear hjl;generalize bs.getD j 0=bj at hc HPUT HRP hbb;go_wp2_with fail;exact⟨⟨j+1,by omega,by simp,HPUT.out,HRP.out⟩,by simp[intOf];omega⟩
    ·have hji:¬(j:Int)<32:=(by omega);have hB:=HB.out;have hj32:j=32:=(by omega);subst hj32;rw[show bs.take 32++List.replicate (32-32) 0=bs from by rw[A5 (by rw[HBL.out];omega)];simp]at hB;have HB3:=XaI hB;clear hB HB;go_wp2_with (first|refine Cz rfl _ rfl gB 0 rfl ⟨2,bs,none,0,0⟩ HBL.out HB3.out.all ?_|refine A4 rfl 62 _ _ rfl _ (RV.cells ⟨2,bs,none,0,0⟩).toArray rfl rfl 62 _ HR.out.row (Da HBL.out) (Dr HBL.out) (Am (RV.one _)) ?_);refine Ao (AZ results149 _ _ (w.heap.size+1) 62 _ (0,0) _ rfl (A9 _ _ _ _ _ _ HR.out.row) underlying62 rfl (Da (y:=⟨2,bs,none,0,0⟩) HBL.out)) rfl ?_;exact⟨⟨⟨2,bs,none,0,0⟩,rfl,rfl,rfl,HBB.out,HBL.out,Fy _ _⟩,Below.setRow HR.out.bel (by omega) _⟩
  ·rw[Ad h32]at hres;subst hres;have h32i:¬(x.bn:Int)=32:=(by omega);go_wp2_with (first|refine A4 rfl 62 _ _ rfl _ rz.cells.toArray rfl rfl 62 _ HRR.out.row (Da rfl) (Dr rfl) (Am (RV.one _)) ?_);refine Ao (AZ results149 _ _ (w.heap.size+1) 62 _ (0,0) _ rfl (A9 _ _ _ _ _ _ HRR.out.row) underlying62 rfl (Da (y:=rz) rfl)) rfl ?_;exact⟨⟨rz,rfl,Fc _ _⟩,Below.setRow HRR.out.bel (by omega) _⟩
theorem Ml(w:World)(r:RV)(hl:r.d.length=32):(Instr.buildSlice 90 1 #[(0, .agg r.cells.toArray)]).run prog w= .ok (.slice (some ⟨w.heap.size,0,none⟩) 1 1) (w.alloc (.cells r.cells.toArray 62)):=by
 obtain⟨i,hi,hz,hsz,hby⟩:=QJ;refine run_buildSlice w 90 62 1 _ r.cells.toArray i _ underlying90 hi hz (by rw[hsz];omega) (by rw[hsz];omega) ?_;rw[hsz]
 have h:=Great.fill_whole (s:=34) (by omega) [.agg r.cells.toArray] ((Array.range (1*34)).map ((Value.agg rz.cells.toArray).cells[·%(Value.agg rz.cells.toArray).cells.size]!)) (λv hv=>by
  simp only[A3,Cb,Ec]at hv;subst hv;show r.cells.toArray.size=34;rw[Bb,RV.len hl]) (by simp)
 refine h.trans ?_;simp[Value.cells]
theorem Kb{a:Act}{w:World}{x:Operand}{o:Oper}(ho:o.op= .buildSlice 90 1 #[(0,x)])(r:RV)(hl:r.d.length=32)(hx:a.eval x= .agg r.cells.toArray):
 (execOp a.eval o).run prog w= .ok (.value (.slice (some ⟨w.heap.size,0,none⟩) 1 1)) (w.alloc (.cells r.cells.toArray 62)):=by
 unfold execOp;rw[ho];simp only[Ci,B9,C6,hx,Bm,Ml w r hl,AH,Bp]
theorem Rs{a:Act}{w w':World}{s x:Operand}{o:Oper}(ho:o.op= .call {callee:= .builtin .append,args:=#[s,x],argTypes:=#[90,90]})(v u:Value)(hd:a.eval s=v)(hx:a.eval x=u){v':Value}
 (hr:(Builtin.append_ #[90,90] o.type #[v,u]).run prog w= .ok v' w'):(execOp a.eval o).run prog w= .ok (.value v') w':=by
 simp[execOp,ho,resolve,invoke,builtin,hd,hx,hr,Result.andThen]
end Go.Proofs.YtalhnnjpjaeakaaGreat
