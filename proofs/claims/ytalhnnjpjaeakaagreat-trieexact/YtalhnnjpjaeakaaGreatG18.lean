/- What a writer writes: references; extensions. -/
import Derived.Test.YtalhnnjpjaeakaaGreatAK
import Derived.Test.YtalhnnjpjaeakaaGreatG17
import Derived.Test.YtalhnnjpjaeakaaGreatG01
import Derived.Test.YtalhnnjpjaeakaaGreatG15
import Derived.Test.YtalhnnjpjaeakaaGreatG14
import Derived.Test.YtalhnnjpjaeakaaGreatG00
set_option linter.unusedVariables false
set_option maxRecDepth 100000
set_option maxHeartbeats 8000000
open Go.Proofs.Tryz Go.RowKit
namespace Go.Proofs.YtalhnnjpjaeakaaGreat
open Tr
variable {y : RV} {K X : Nat → Prop} {w w' : World} {r : PR} {gW n c g base : Nat} {vN vN' v0 : Value} {a : Option Addr} {T0 : TypeId}
theorem Fd(h:y.d.length=32):y.cells.toArray.size=34:=by rw[Bb,RV.len h]
theorem Mm(y:RV):y.cells.toArray.all (·.oneCell')=true:=Am (RV.one y)
theorem N9{fn:Func}{p:Tmp}{f:Nat->Value}(h:fn.results=#[.cell p 62])(w:World)(g:Nat)(y:RV)(hl:y.d.length=32)(hp:f p= .pointer (some ⟨g,0,none⟩))(hg:Rw g w y.cells.toArray 62):(resF f fn.results).run prog w= .ok (.agg y.cells.toArray) w:=by
 have:=CR (P:=prog) w g 62 62 _ _ _ hg underlying62 rfl (by rw[FP,Fd hl]);unfold resF;rw[h];simp[hp,this,asAddr]
structure Rf(K:Nat->Prop)(w:World)(y:RV)(r:PR):Prop where
 at':RefAt K w y r
theorem Rf.go(h:Rf K w y r)(hb:Below w.heap.size w w'):Rf K w' y r:=⟨h.at'.go (Keep.below hb)⟩
theorem Rf.wg(h:Rf (KW gW vN X) w y r)(g:Wg w w' gW vN vN'):Rf (KW gW vN' X) w' y r:=⟨h.at'.go g.keep⟩
theorem Sk.put{bs:List Int}{cells:Array Value}(h:Sk K w a n c bs)(hp:Put w w' g cells)(hK:∀b,K b->b≠g):Sk K w' a n c bs:=by
 refine⟨⟨?_,h.ag.nil,h.ag.l,h.ag.b⟩,h.k⟩;rcases h.ag.i with h1|⟨gb,off,h1,h2,h3,h4,h5,h7⟩
 ·exact .inl h1
 ·exact .inr ⟨gb,off,h1,h2,h3,h4,h5,λj hj=>(Aq (show w'.heap[gb]?=w.heap[gb]? from hp.other (hK gb (h.k _ h1 h3)))).trans (h7 j hj)⟩
theorem Rf.put{cells:Array Value}(h:Rf K w y r)(hp:Put w w' g cells)(hK:∀b,K b->b≠g):Rf K w' y r:=⟨h.at'.go (λb hb _=>⟨hp.other (hK b hb),hb⟩)⟩
theorem Rf.mono{K':Nat->Prop}(h:Rf K w y r)(hK:∀b,K b->K' b):Rf K' w y r:=⟨h.at'.go (λb hb _=>⟨rfl,hK b hb⟩)⟩
theorem Wt.drew{ns:List (List Int)}(h:Wt w gW base vN X ns):Wt w.drew gW base vN X ns:=h.go (Ak _ _).drew
theorem Wt.put{ns:List (List Int)}{cells old:Array Value}{T:TypeId}(h:Wt w gW base vN X ns)(hr:Rw g w old T)(h1:T≠27)(h2:T≠81)(hX:∀b,X b->b≠g)(hp:Put w w' g cells):Wt w' gW base vN X ns:=by
 obtain⟨vals,⟨q1,ho⟩,hv⟩:=h.o;have hne:gW≠g:=by
  rintro rfl;have:=h.r;rw[Rw,hr]at this;simp at this;exact h2 this.2
 refine⟨(hp.other hne).trans h.r,⟨vals,⟨q1,?_⟩,hv.1,λj u hu=>?_⟩,h.b⟩
 case refine_2=>
  obtain⟨a,n,c,e,hs,hw⟩:=hv.2 j u hu;exact⟨a,n,c,e,hs.put hp (λb hb=>hX b hb.2.2),hw.at hs (λb hK _=>hp.other (hX b hK.2.2))⟩
 rcases ho with q|⟨g',cap,cur,e1,e2,e3,e4⟩
 ·exact .inl q
 ·refine .inr ⟨g',cap,cur,e1,e2,(hp.other ?_).trans e3,e4⟩;rintro rfl;rw[hr]at e3;simp at e3;exact h1 e3.2
theorem Wg.put{v v':World}{cells:Array Value}(h:Wg w v gW vN vN')(hp:Put v v' g cells)(hg:w.heap.size<=g):Wg w v' gW vN vN':=by
 have ht:=hp.touch;exact⟨ht.os.trans h.os,ht.tape.trans h.tape,ht.output.trans h.output,Al h.size ht.size,λk hk h1 h2=>(hp.other (by omega)).trans (h.block k hk h1 h2),h.own⟩
def RRf(w:World)(gW base:Nat)(vN:Value)(X:Nat->Prop)(ns:List (List Int))(t:Tr):Value->World->Prop:=λu w'=>∃(y:RV)(vN':Value),u= .agg y.cells.toArray/\Rf (KW gW vN' (λb=>w.heap.size<b)) w' y (referP (encT t))/\Wt w' gW base vN' X (ns++(nmd t++nm1 (encT t)))/\Wg w w' gW vN vN'
theorem PS(b:List Int):(referP b).k=if b.length<32 then 1 else 2:=by unfold referP;split<;>rfl
theorem OH{ns:List (List Int)}(hW:Wt w gW base vN X ns){t:Tr}(hX:∀b,w.heap.size<=b->X b)(hE:∀v,Bl w v->∀Y:Nat->Prop,Wt v gW base vN Y ns->(∀b,v.heap.size<=b->Y b)->Calls prog 40 #[.pointer (some ⟨gW,0,none⟩), .iface T0 v0] v λe w'=>∃u,e= .returned u/\REn v gW base vN Y ns t u w')(hM:(ns++nmd t).length+1<=7600000000000)(hsh:(encT t).length<32):
 Calls prog 186 #[.pointer (some ⟨gW,0,none⟩), .iface T0 v0] w λe w'=>∃u,e= .returned u/\RRf w gW base vN X ns t u w':=by
 have hB:=Bl.refl w;have hW0:=hW;refine Dp func186 26<|Hn 2 rz.cells.toArray 62 ?_;intro w1 gR hnR hrR;have hgR:=hnR.hg;have hsR:=hnR.size;have hWX:Wt w1 gW base vN (λb=>X b/\b≠gR) ns:=(hW0.mono (Y:=λb=>X b/\b≠gR) (λb hb hx=>⟨hx,by omega⟩)).go hnR.below;replace hB:=hB.go hnR.below;refine Hc 6 (R:=REn w1 gW base vN (λb=>X b/\b≠gR) ns t) (hE w1 hB (λb=>X b/\b≠gR) hWX (λb hb=>⟨hX b (by omega),by omega⟩)) ?_;rintro _ u1⟨a2,n2,c2,vM,rfl,hs2,hW1,hG,hen,-⟩;replace hW:=hW.go hnR.below;replace hrR:=hrR.wg hG hW (by decide) (by decide);have hGt:=(Wg.of_below hB).trans hG;clear hW hB;have hz1:=hG.size;have ln2:=hs2.len;refine Hc 6 (R:=λu w'=>∃y:RV,u= .agg y.cells.toArray/\Rf (λb=>u1.heap.size<=b) w' y (referP (encT t))/\Bl u1 w') ((N6 a2 n2 c2 (encT t) u1 hs2.ag (by omega)).mono (λe w' h=>by obtain⟨⟨y,e1,h1⟩,h2⟩:=h;exact⟨_,e1,y,rfl,⟨h1.go (λb hb _=>⟨rfl,hb.1⟩)⟩,h2⟩)) ?_;rintro _ u2⟨y,rfl,hRf,hb2⟩;have hltW:=hW1.lt;replace hRf:Rf (KW gW vM (λb=>w.heap.size<b)) u2 y (referP (encT t)):=hRf.mono (λb hb=>⟨λe=>by have:=hltW.1;omega,λe=>by have:=hltW.2 b e;omega,by omega⟩);have hyl:=hRf.at'.len;have hyk:y.k=1:=by rw[hRf.at'.1,PS,Af hsh]
 refine Hn 0 rz.cells.toArray 62 ?_;intro wA g6 hnA _;refine Hy 0 (og f186 2 3) g6 y.cells.toArray (λ_=>CH 62 _ _ _ _ _ _ rfl (by kernel_rfl) (by kernel_rfl) hnA.row (by rw[FP,Fd hyl]) (by rw[Fd hyl];rfl) (Mm y)) ?_;intro wC hpC;have hnC:=hnA.put hpC;have hr6:Rw g6 wC y.cells.toArray 62:=hnC.row;refine Hx 6 (og f186 3 1) (.int .i64 1) (λ_=>AF 3 _ ⟨g6,0,none⟩ _ _ rfl (by kernel_rfl) (by rw[Ae _ _ _ _ _ _ hr6,<-hyk];rfl) underlying3 rfl)<|Hx 8 (og f186 5 0) (.agg y.cells.toArray) (λ_=>Ep 62 _ _ _ _ _ _ rfl (by kernel_rfl) hr6 underlying62 rfl (by rw[FP,Fd hyl])) ?_;replace hrR:=(hrR.go hb2).go hnC.below;refine Hy 0 (og f186 5 1) gR y.cells.toArray (λ_=>CH 62 _ _ _ _ _ _ rfl (by kernel_rfl) (by kernel_rfl) hrR (by rw[FP,Fd hyl]) (by rw[Fd hyl];rfl) (Mm y)) ?_;intro wE hpE;have hrE:Rw gR wE y.cells.toArray 62:=hpE.row hrR;replace hRf:=hRf.go hnC.below;have hRE:=hRf.put hpE (λb hb=>by have:=hb.2.2;omega);replace hW1:=(hW1.go hb2).go hnC.below;have hWE:=(hW1.put hrR (by decide) (by decide) (λb hb=>hb.2) hpE).mono (λb _ hb=>hb.1);replace hGt:=(hGt.go hb2).go hnC.below;have hGE:=hGt.put hpE (by omega);exact UX 3 (.agg y.cells.toArray) (λ_=>N9 results186 _ gR y hyl (by kernel_rfl) hrE) ⟨_,rfl,y,vM,rfl,hRE,(by rw[show nm1 (encT t)=[]from by unfold nm1;rw[Af hsh],A3];exact hWE),hGE⟩
theorem PT{ns:List (List Int)}(hW:Wt w gW base vN X ns){t:Tr}(hX:∀b,w.heap.size<=b->X b)(hE:∀v,Bl w v->∀Y:Nat->Prop,Wt v gW base vN Y ns->(∀b,v.heap.size<=b->Y b)->Calls prog 40 #[.pointer (some ⟨gW,0,none⟩), .iface T0 v0] v λe w'=>∃u,e= .returned u/\REn v gW base vN Y ns t u w')(hM:(ns++nmd t).length+1<=7600000000000)(hsh:¬(encT t).length<32):
 Calls prog 186 #[.pointer (some ⟨gW,0,none⟩), .iface T0 v0] w λe w'=>∃u,e= .returned u/\RRf w gW base vN X ns t u w':=by
 have hB:=Bl.refl w;have hW0:=hW;refine Dp func186 26<|Hn 2 rz.cells.toArray 62 ?_;intro w1 gR hnR hrR;have hgR:=hnR.hg;have hsR:=hnR.size;have hWX:Wt w1 gW base vN (λb=>X b/\b≠gR) ns:=(hW0.mono (Y:=λb=>X b/\b≠gR) (λb hb hx=>⟨hx,by omega⟩)).go hnR.below;replace hB:=hB.go hnR.below;refine Hc 6 (R:=REn w1 gW base vN (λb=>X b/\b≠gR) ns t) (hE w1 hB (λb=>X b/\b≠gR) hWX (λb hb=>⟨hX b (by omega),by omega⟩)) ?_;rintro _ u1⟨a2,n2,c2,vM,rfl,hs2,hW1,hG,hen,hq2⟩;replace hW:=hW.go hnR.below;replace hrR:=hrR.wg hG hW (by decide) (by decide);have hGt:=(Wg.of_below hB).trans hG;clear hW hB;have hz1:=hG.size;have ln2:=hs2.len;refine Hc 6 (R:=λu w'=>∃y:RV,u= .agg y.cells.toArray/\Rf (λb=>u1.heap.size<=b) w' y (referP (encT t))/\Bl u1 w') ((N6 a2 n2 c2 (encT t) u1 hs2.ag (by omega)).mono (λe w' h=>by obtain⟨⟨y,e1,h1⟩,h2⟩:=h;exact⟨_,e1,y,rfl,⟨h1.go (λb hb _=>⟨rfl,hb.1⟩)⟩,h2⟩)) ?_;rintro _ u2⟨y,rfl,hRf,hb2⟩;have hltW:=hW1.lt;replace hq2:=hq2.go hs2 hb2;replace hRf:Rf (KW gW vM (λb=>w.heap.size<b)) u2 y (referP (encT t)):=hRf.mono (λb hb=>⟨λe=>by have:=hltW.1;omega,λe=>by have:=hltW.2 b e;omega,by omega⟩);have hyl:=hRf.at'.len;have hyk:y.k=2:=by rw[hRf.at'.1,PS,Ad hsh]
 refine Hn 0 rz.cells.toArray 62 ?_;intro wA g6 hnA _;refine Hy 0 (og f186 2 3) g6 y.cells.toArray (λ_=>CH 62 _ _ _ _ _ _ rfl (by kernel_rfl) (by kernel_rfl) hnA.row (by rw[FP,Fd hyl]) (by rw[Fd hyl];rfl) (Mm y)) ?_;intro wC hpC;have hnC:=hnA.put hpC;replace hs2:=hs2.go hb2;replace hq2:=hq2.go hs2 hnC.below;have hr6:Rw g6 wC y.cells.toArray 62:=hnC.row;refine Hx 6 (og f186 3 1) (.int .i64 2) (λ_=>AF 3 _ ⟨g6,0,none⟩ _ _ rfl (by kernel_rfl) (by rw[Ae _ _ _ _ _ _ hr6,<-hyk];rfl) underlying3 rfl) ?_;replace hW1:=(hW1.go hb2).go hnC.below;refine Hl 9 hW1.r 0 41 (vM)<|Ko 1 #[.slice a2 n2 c2] 27 1 ?_;intro wL gL hnL hLr;replace hs2:=hs2.go hnC.below;replace hq2:=hq2.go hs2 hnL.below;replace hW1:=hW1.go hnL.below;replace hs2:=hs2.go hnL.below;obtain⟨vP,wP,hrP,hNA,hrW,hvc,hv1⟩:=Up hW1 (hs2.mono (K':=KW gW vM (λb=>X b/\b≠gR)) (λb hb=>⟨hb.1,hb.2.1,hX b (by have:=hb.2.2;omega),by have:=hb.2.2;omega⟩)) hq2 hLr (by simp only[Ab]at hM⊢;omega);refine Hx 0 (og f186 4 7) vP (λ_=>Sf hrP _ _ rfl (by kernel_rfl) (by kernel_rfl))<|Ha 2 (og f186 4 10) gW 0 vP (λ_=>BO 41 _ _ gW 0 _ 81 _ hrW rfl (by kernel_rfl) (by kernel_rfl) (by show 0<1;omega) hvc hv1 (by kernel_rfl)) ?_;intro wD hpD;obtain⟨hW2,hG2⟩:=hNA wD hpD;replace hrR:=((hrR.go hb2).go hnC.below).go hnL.below;replace hrR:=hrR.wg hG2 hW1 (by decide) (by decide);replace hr6:=hr6.go hnL.below;replace hr6:=hr6.wg hG2 hW1 (by decide) (by decide);clear hW1 hs2;have hW1:=hW2;refine Hx 4 (og f186 5 0) (.agg y.cells.toArray) (λ_=>Ep 62 _ _ _ _ _ _ rfl (by kernel_rfl) hr6 underlying62 rfl (by rw[FP,Fd hyl]))<|Hy 0 (og f186 5 1) gR y.cells.toArray (λ_=>CH 62 _ _ _ _ _ _ rfl (by kernel_rfl) (by kernel_rfl) hrR (by rw[FP,Fd hyl]) (by rw[Fd hyl];rfl) (Mm y)) ?_;intro wE hpE;have hrE:Rw gR wE y.cells.toArray 62:=hpE.row hrR;replace hRf:=((hRf.go hnC.below).go hnL.below).wg hG2;have hRE:=hRf.put hpE (λb hb=>by have:=hb.2.2;omega);have hWE:=(hW1.put hrR (by decide) (by decide) (λb hb=>hb.2) hpE).mono (λb _ hb=>hb.1);replace hGt:=(((hGt.go hb2).go hnC.below).go hnL.below).trans hG2;have hGE:=hGt.put hpE (by omega);exact UX 3 (.agg y.cells.toArray) (λ_=>N9 results186 _ gR y hyl (by kernel_rfl) hrE) ⟨_,rfl,y,vP,rfl,hRE,(by rw[show nm1 (encT t)=[encT t]from by unfold nm1;rw[Ad hsh],<-AE];exact hWE),hGE⟩
theorem Sk.aged{bs:List Int}(h:Sk (KW gW vN X) w a n c bs):Sk (KW gW vN (λb=>b<w.heap.size)) w a n c bs:=⟨h.ag,λx hx hn=>by have hk:=h.k x hx hn;exact⟨hk.1,hk.2.1,h.old hx hn⟩⟩
theorem Lg(w:World):AgK (λ_=>True) w none 0 0 []:=⟨⟨.inl ⟨rfl,rfl⟩,λ_=>⟨rfl,rfl⟩,rfl,λx hx=>by cases hx⟩,Ay _,λ_ _ _ _=>trivial⟩
theorem Rd(y:NV):y.cells.toArray.all (·.oneCell')=true:=Am (NV.one y)
theorem Uy{ns:List (List Int)}(hW:Wt w gW base vN X ns){Z:Nat->Prop}{p:List Int}{t:Tr}{Tu:TypeId}{xu:Value}(hp:Sk (KW gW vN Z) w a n c p)(hl1:n<=1000)(hX:∀b,w.heap.size<=b->X b)(hR:∀v,Bl w v->∀Y:Nat->Prop,Wt v gW base vN Y ns->(∀b,v.heap.size<=b->Y b)->Calls prog 186 #[.pointer (some ⟨gW,0,none⟩), .iface Tu xu] v λe w'=>∃u,e= .returned u/\RRf v gW base vN Y ns t u w'):
 Calls prog 190 #[.agg #[.slice a n c, .iface Tu xu], .pointer (some ⟨gW,0,none⟩)] w λe w'=>∃u,e= .returned u/\RNd w gW base vN X ns (ext p t) u w':=by
 have hB:=Bl.refl w;have hW0:=hW;refine Dp func190 12<|Hn 2 (#[.slice a n c, .iface Tu xu]) 220 ?_;intro w1 g2 hn3 hr4;have hgb:=hn3.hg;have hsb:=hn3.size;refine Hn 0 nz.cells.toArray 92 ?_;intro wN gN hnN hrN;have hgN:=hnN.hg;have hsN:=hnN.size;replace hB:=(hB.go hn3.below).go hnN.below;have hWX:Wt wN gW base vN (λb=>X b/\b≠gN) ns:=(hW0.mono (Y:=λb=>X b/\b≠gN) (λb hb hx=>⟨hx,by omega⟩)).go hB;replace hr4:=hr4.go hnN.below;refine GK 3 (λv=>Rw g2 v (#[.slice a n c, .iface Tu xu]) 220) (hr4.drew) ?_;replace hr4:=hr4.drew;refine Dl [0] 1 (λv hv=>hv) 0 27 (.slice a n c) hr4<|Dl [2,3] 4 (λv hv=>hv) 1 65 (.iface Tu xu) hr4<|Dz [5] ?_;replace hB:=hB.drew;replace hrN:=hrN.drew;replace hWX:=hWX.drew;refine Yc 5 (R:=RRf (wN.drew) gW base vN (λb=>X b/\b≠gN) ns t) (hR (wN.drew) hB (λb=>X b/\b≠gN) hWX (λb hb=>⟨hX b (Al hB.size hb),λe=>by have hq:gN<(wN.drew).heap.size:=lt_of_get hrN;omega⟩)) (λu w' h=>by obtain⟨_,_,_,_,_,hg⟩:=h;exact hr4.wg hg hWX (by decide) (by decide)) ?_ yn;rintro _ u1⟨y,vM,rfl,hRf,hW1,hG⟩;have hq1:gN<_:=lt_of_get hrN;replace hr4:=hr4.wg hG hWX (by decide) (by decide);replace hrN:=hrN.wg hG hWX (by decide) (by decide);have hGt:=(Wg.of_below hB).trans hG;have hyl:=hRf.at'.len;replace hW:=((hW.go hn3.below).go hnN.below).drew;clear hB hW hWX;refine Dx [] 6 (og f190 1 6) (.agg (NV.cells ⟨2,a,n,c,none,0,0,y,none,0,0⟩).toArray) (λv hv _=>Fs 92 _ [(0, .int .i64 2),(1, .slice a n c),(3, .agg y.cells.toArray)] _ rfl (by kernel_rfl) (GU _ _ _ _ hyl)) hr4<|Dz [7] ?_;refine Yy 7 (og f190 1 7) gN ((NV.cells ⟨2,a,n,c,none,0,0,y,none,0,0⟩).toArray) (λ_=>CH 92 _ _ _ _ _ _ rfl (by kernel_rfl) (by kernel_rfl) hrN (by rw[I6,IL (y:=⟨2,a,n,c,none,0,0,y,none,0,0⟩) hyl]) (by rw[IL (y:=⟨2,a,n,c,none,0,0,y,none,0,0⟩) hyl];rfl) (Rd _)) (λw' h=>(h.other (by omega)).trans hr4) ?_ yn;intro w5 hp6;have hrE:Rw gN w5 (NV.cells ⟨2,a,n,c,none,0,0,y,none,0,0⟩).toArray 92:=hp6.row hrN;have hRE:=hRf.put hp6 (λb hb=>by have:=hb.2.2;omega);replace hp:=(((hp.aged.go hn3.below).go hnN.below).drew).wg hG;have hpE:=hp.put hp6 (λb hb=>by have:=hb.2.2;omega);have hWE:=(hW1.put hrN (by decide) (by decide) (λb hb=>hb.2) hp6).mono (λb _ hb=>hb.1);have hGE:=hGt.put hp6 (by omega);refine Do ?_;have lp:=hpE.len;exact UX 2 (.agg (NV.cells ⟨2,a,n,c,none,0,0,y,none,0,0⟩).toArray) (λ_=>FE results190 _ gN ⟨2,a,n,c,none,0,0,y,none,0,0⟩ hyl (by kernel_rfl) hrE) ⟨_,rfl,⟨2,a,n,c,none,0,0,y,none,0,0⟩,vM,rfl,⟨rfl,hpE.agk (by omega),Lg _,hRE.at'.go (λb hb _=>⟨rfl,trivial⟩),⟨rfl,Aa _,Ay _,Ay _,λ_=>⟨rfl,rfl⟩⟩,λj r hr=>by simp[nodeP]at hr⟩,hWE,hGE⟩
end Go.Proofs.YtalhnnjpjaeakaaGreat
namespace Go.Proofs.YtalhnnjpjaeakaaGreat
open Di (dref)
theorem Re(a:Option Addr)(n c:Nat)(b:List Int)(w:World)(h:Ag w a n c b)(hn:n<=140737488351232):Calls prog 108 #[.slice a n c] w (RfPost w b):=by
 have hl:=h.l;by_cases h32:n<32
 ·have hr:referP b=⟨1,z32,b⟩:=by unfold referP;rw[Af (by omega)]
  unfold RfPost;rw[hr];have h32i:(n:Int)<32:=by omega
  have HAG:=Xba h;have HLB:=Xba hl;clear hr h hl;go_enter func108,ntmps108;go_upto_region 1 with fail;refine gen_w (p:=λv=>Code.wp _ _ _ _ v) (q:=λv=>v.heap[w.heap.size]?=some (.cells rz.cells.toArray 62)/\Below w.heap.size w v/\w.heap.size+1<=v.heap.size) ⟨Ai _ _,below_new _ _,by simp⟩ ?_;rintro v⟨hrow,hb,hsz⟩;have HROW:=Xba hrow;have HB:=Xba hb;have HSZ:=Xba hsz;have HA2:=Xba (XaN HAG.out hb);clear hrow hb hsz;go_upto_region 2 with fail;rename_i KK hkk;refine CZ<|Oz 6 (.slice (some ⟨v.heap.size,0,none⟩) 0 0) rfl (by kernel_rfl) (Y8 rfl)<|Bu 7 (.slice a n c) rfl (by kernel_rfl) (by kernel_rfl) ?_;have hag2:=HA2.out.at (below_new v (.cells #[] 5));refine DB rfl (.tmp 6) (.tmp 7) rfl v.heap.size _ [] (by kernel_rfl) (OwnB.new v) a n c b (by kernel_rfl) hag2.i hag2.nil hag2.l (by simp;omega) (by simp) ?_;intro v1 w1 o1 hb1;rw[A6]at o1;obtain⟨a1,c1,rfl,hag⟩:=o1.ag HAG.out.b;rw[HLB.out]at hag⊢;have hbv:Below v.heap.size v w1:=(below_new v (.cells #[] 5)).trans hb1;have hrow1:=Below.row hbv HROW.out;have hfz:Fr v.heap.size w1 a1 n:=λg off e h0=>by
   rcases o1.2 with⟨hx,_⟩|⟨g',cap',cur,hx,hg',hh,_⟩
   ·injection hx with e1;rw[e1]at e;cases e
   ·cases hx;cases e;exact⟨hg',λo=>AL _ _ _ _ _ hh⟩
  refine Bu 9 (.agg (RV.cells ⟨1,z32,a1,n,c1⟩).toArray) rfl (by kernel_rfl) (Ea 62 _ rfl [(0, .int .i64 1),(2, .slice a1 n c1)] (by kernel_rfl) _ (VW _ _ _))<|Fy rfl (by kernel_rfl) (D3 62 _ _ rfl w.heap.size (RV.cells ⟨1,z32,a1,n,c1⟩).toArray (by kernel_rfl) (by kernel_rfl) 62 rz.cells.toArray hrow1 (Da rfl) (Dv rfl) (Am (RV.one _)))<|hkk _ _<|OE (post:=λe w'=>(∃y:RV,e= .returned (.agg y.cells.toArray)/\RefAt (Own w.heap.size w') w' y ⟨1,z32,b⟩)/\Below w.heap.size w w') results108 (λh=>h) w.heap.size ⟨1,z32,a1,n,c1⟩ rfl (by kernel_rfl) (by kernel_rfl) (AA _ _ _ _ _ _ hrow1) ?_;refine⟨⟨⟨1,z32,a1,n,c1⟩,rfl,rfl,rfl,Jy,rfl,(show AgK (Own v.heap.size w1) w1 a1 n c1 b from⟨hag,by omega,λg off e h0=>hfz g off e h0⟩).go (Keep.setRow (base:=v.heap.size) (base':=w.heap.size) (g:=w.heap.size) (by have:=HSZ.out;omega) (by have:=HSZ.out;omega))⟩,Below.setRow (below_go HB.out hbv) (Aa _) _⟩
 ·have hr:referP b=⟨2,dref b,[]⟩:=by unfold referP;rw[Ad (by omega)]
  unfold RfPost;rw[hr];have h32i:¬(n:Int)<32:=by omega
  have HOF:=Xba (λv(hv:Below w.heap.size w v)=>LQ a n c b v (h.at hv) hn);have HDL:=Xba (dref_len b);have HDB:=Xba (P5 b);obtain⟨ds,hds⟩:∃ds,dref b=ds:=⟨_,rfl⟩;rw[hds]at HOF HDL HDB⊢;clear hr h hl hds;go_enter func108,ntmps108;go_upto_region 1 with fail;refine gen_w (p:=λv=>Code.wp _ _ _ _ v) (q:=λv=>v.heap[w.heap.size]?=some (.cells rz.cells.toArray 62)/\Below w.heap.size w v) ⟨Ai _ _,below_new _ _⟩ ?_;rintro v⟨hrow,hb⟩;have HROW:=Xba hrow;have HB:=Xba hb;clear hrow hb;go_upto_region 3 with fail;rename_i KK hkk;refine CZ<|Bu 10 (.slice a n c) rfl (by kernel_rfl) (by kernel_rfl)<|KX 11 rfl (by kernel_rfl) 46 #[.slice a n c] (by kernel_rfl) (R:=λval w'=>val= .agg (B8 ds)/\Below v.heap.size v w') ((HOF.out v HB.out).mono (λe w' h=>⟨_,h.1,rfl,h.2⟩)) ?_;rintro val w1⟨rfl,hb1⟩;have hrow1:=Below.row hb1 HROW.out;refine Bu 12 (.agg (RV.cells ⟨2,ds,none,0,0⟩).toArray) rfl (by kernel_rfl) (Ea 62 _ rfl [(0, .int .i64 2),(1, .agg (B8 ds))] (by kernel_rfl) _ (N5 ds HDL.out))<|Fy rfl (by kernel_rfl) (D3 62 _ _ rfl w.heap.size (RV.cells ⟨2,ds,none,0,0⟩).toArray (by kernel_rfl) (by kernel_rfl) 62 rz.cells.toArray hrow1 (Da HDL.out) (Dv HDL.out) (Am (RV.one _)))<|hkk _ _<|OE (post:=λe w'=>(∃y:RV,e= .returned (.agg y.cells.toArray)/\RefAt (Own w.heap.size w') w' y ⟨2,ds,[]⟩)/\Below w.heap.size w w') results108 (λh=>h) w.heap.size ⟨2,ds,none,0,0⟩ HDL.out (by kernel_rfl) (by kernel_rfl) (AA _ _ _ _ _ _ hrow1) ?_;exact⟨⟨⟨2,ds,none,0,0⟩,rfl,rfl,rfl,HDB.out,HDL.out,Fz _ _⟩,Below.setRow (below_go HB.out hb1) (Aa _) _⟩
end Go.Proofs.YtalhnnjpjaeakaaGreat
namespace Go.Proofs.YtalhnnjpjaeakaaGreat
open Tr
variable {w : World} {a : Option Addr} {n c : Nat} {p x : List Int} {K : Nat → Prop} {vs : List (Value × Value)}
def RN7(w:World)(t:Tr):Value->World->Prop:=λu w'=>(∃y:NV,u= .agg y.cells.toArray/\NodeAt (λ_=>True) w' y (nodeP t))/\Bl w w'
def RB7(w:World)(t:Tr):Value->World->Prop:=λu w'=>(∃a m c,u= .slice a m c/\Sk (λ_=>True) w' a m c (encT t)/\m<=65540)/\Bl w w'
theorem SU{b:List Int}(h:Sk (λ_=>True) w a n c b)(hn:n<=140737488351232):
 Calls prog 108 #[.slice a n c] w λe w'=>∃u,e= .returned u/\(∃y:RV,u= .agg y.cells.toArray/\RefAt (Own w.heap.size w') w' y (referP b))/\Bl w w':=
 (Re a n c b w h.ag hn).mono (λe w'⟨⟨y,e1,h1⟩,h2⟩=>⟨_,e1,⟨y,rfl,h1⟩,h2⟩)
theorem PU{t:Tr}{k:List Int}{j:Nat}(h:(entsR (ext p t))[j]?=some (k,x)):k.take p.length=p/\p.length<=k.length:=by
 have h2:((entsR t).map λe=>(p++e.1,e.2))[j]?=some (k,x):=h;rw[Bx]at h2;cases hq:(entsR t)[j]? with
 |none=>rw[hq]at h2;cases h2
 |some e=>
  rw[hq]at h2;simp only[BN,Cp,CE]at h2;rw[<-h2.1];exact⟨D8,by simp⟩
theorem Rg(hl:PAt K w a 1 c vs [(p,x)])(hp:p.length<=1000)(hx:x.length<=256):
 Calls prog 74 #[.slice a 1 c] w λe w'=>∃u,e= .returned u/\RN7 w (leaf p x) u w':=by
 have hB:=Bl.refl w;have h0n:0<1:=by omega
 obtain⟨gE,oE,a1,n1,c1,a2,n2,c2,k,y,ea,hej,hc1,hc2,hs1,hs2⟩:=hl.at h0n;subst ea;cases hej;have lk:=hs1.len;have lx:=hs2.len;refine Dp func74 78<|Hn 2 nz.cells.toArray 92 ?_;intro wN gN hnN hrN;have hgN:=hnN.hg;have hszN:=hB.size;replace hB:=hB.go hnN.below;refine GK 12 (λv=>Bl w v) (hB.drew) ?_;replace hB:=hB.drew;refine Dx [0] 1 (og f74 2 1) (.pointer (some ⟨gE,oE+0*2,none⟩)) (λv hv _=>AV 103 _ _ gE oE 0 1 c 2 133 rfl (by kernel_rfl) (by kernel_rfl) h0n underlying103 (by kernel_rfl)) hB<|Dx [2] 3 (og f74 2 3) (.slice a1 n1 c1) (λv hv _=>AF 27 _ _ _ _ rfl (by kernel_rfl) ((BV hv (Aj hc1)).trans hc1) underlying27 rfl) hB<|Dx [4] 5 (og f74 2 5) (.pointer (some ⟨gE,oE+0*2,none⟩)) (λv hv _=>AV 103 _ _ gE oE 0 1 c 2 133 rfl (by kernel_rfl) (by kernel_rfl) h0n underlying103 (by kernel_rfl)) hB<|Dx [6] 7 (og f74 2 7) (.slice a2 n2 c2) (λv hv _=>AF 27 _ _ _ _ rfl (by kernel_rfl) ((BV hv (Aj hc2)).trans hc2) underlying27 rfl) hB<|Dx [] 8 (og f74 2 8) (.agg (NV.cells ⟨1,a1,n1,c1,a2,n2,c2,rz,none,0,0⟩).toArray) (λv hv _=>Fs 92 _ [(0, .int .i64 1),(1, .slice a1 n1 c1),(2, .slice a2 n2 c2)] _ rfl (by kernel_rfl) (Ju _ _ _ _ _ _)) hB<|Dz [9] ?_;replace hrN:=hrN.drew;refine Yy 9 (og f74 2 9) gN ((NV.cells ⟨1,a1,n1,c1,a2,n2,c2,rz,none,0,0⟩).toArray) (λ_=>CH 92 _ _ _ _ _ _ rfl (by kernel_rfl) (by kernel_rfl) hrN (by kernel_rfl) (by kernel_rfl) (by kernel_rfl)) (λw' h=>h.below hB (by omega) hB.size) ?_ yn;intro w1 hp2;have hrC:Rw gN w1 (NV.cells ⟨1,a1,n1,c1,a2,n2,c2,rz,none,0,0⟩).toArray 92:=hp2.row hrN;replace hB:=hp2.below hB (by omega) hB.size;refine Do ?_;exact UX 3 (.agg (NV.cells ⟨1,a1,n1,c1,a2,n2,c2,rz,none,0,0⟩).toArray) (λ_=>FE results74 _ gN ⟨1,a1,n1,c1,a2,n2,c2,rz,none,0,0⟩ rfl (by kernel_rfl) hrC) ⟨_,rfl,⟨⟨1,a1,n1,c1,a2,n2,c2,rz,none,0,0⟩,rfl,⟨rfl,(hs1.go hB).agk (by omega),(hs2.go hB).agk (by omega),Hg _,⟨rfl,Aa _,Ay _,Ay _,λ_=>⟨rfl,rfl⟩⟩,λj r hr=>by simp[nodeP]at hr⟩⟩,hB⟩
theorem Uz{t:Tr}{B:Nat}(hO:Tr.Ok B (ext p t))(hB64:B<=64)(hl:PAt K w a n c vs (entsR (ext p t)))(hb:n<=2600000000000)(hlen:∀(j:Nat) k x,(entsR (ext p t))[j]?=some (k,x)->k.length<=1000000)(hBy:∀v,Bl w v->∀K' a' n' c' vs',PAt K' v a' n' c' vs' (entsR t)->n'<=2600000000000->Calls prog 50 #[.slice a' n' c'] v λe w'=>∃u,e= .returned u/\RB7 v t u w'):
 Calls prog 74 #[.slice a n c] w λe w'=>∃u,e= .returned u/\RN7 w (ext p t) u w':=by
 have hB:=Bl.refl w;have ll:=hl.ll;have h2n:=SS hO;have h0n:0<n:=by omega
 have hpl:0<p.length:=BC.2 hO.2.1;have hpB:=hO.2.2.1;obtain⟨gE,oE,a1,n1,c1,a2,n2,c2,k,y0,ea,hej,hc1,hc2,hs1,hs2⟩:=hl.at h0n;subst ea;obtain⟨hkp,hkl⟩:=PU hej;have lk:=hs1.len;obtain⟨a6,n6,c6,hr7,hs7⟩:=hs1.cutTo p.length (by omega);rw[hkp]at hs7;have l7:=hs7.len;refine Dp func74 78<|Hn 2 nz.cells.toArray 92 ?_;intro wN gN hnN hrN;have hgN:=hnN.hg;have hszN:=hB.size;refine Hz 7 (n:Int) (1:Int) ?_;replace hB:=hB.go hnN.below;refine Hc 8 (R:=λu w'=>u= .int .i64 ((p.length:Nat):Int)/\Bl (wN) w') ((Iw (hl.go hB) hb h0n hlen).mono (λe w'⟨u,e1,e2,e3⟩=>⟨u,e1,by rw[e2,N8 hO],e3⟩)) ?_;rintro _ u1⟨rfl,hb3⟩;refine Ht 7 (((p.length:Nat):Int)>(0:Int)) ?_;replace hB:=hB.go hb3;refine GK 4 (λv=>Bl w v) (hB.drew) ?_;replace hB:=hB.drew;refine Dx [0] 1 (og f74 5 1) (.pointer (some ⟨gE,oE+0*2,none⟩)) (λv hv _=>AV 103 _ _ gE oE 0 n c 2 133 rfl (by kernel_rfl) (by kernel_rfl) h0n underlying103 (by kernel_rfl)) hB<|Dx [2] 3 (og f74 5 3) (.slice a1 n1 c1) (λv hv _=>AF 27 _ _ _ _ rfl (by kernel_rfl) ((BV hv (Aj hc1)).trans hc1) underlying27 rfl) hB<|Dx [4] 5 (og f74 5 5) (.slice a6 n6 c6) (λv hv _=>hr7 _ _ _ _ _ _ rfl (by kernel_rfl) (by kernel_rfl) rfl) hB<|Dy [6,7] [8] hB ?_;refine Yc 8 (R:=λu w'=>(∃a' m' c' vs',u= .slice a' m' c'/\PAt (λb=>K b∨(u1.drew).heap.size<=b) w' a' m' c' vs' (entsR t))/\Bl (u1.drew) w') ((KB (hl.go hB) hb (λj k x h=>(PU h).2)).mono (λe w'⟨u,e1,⟨a',m',c',vs',e2,e3⟩,e4⟩=>⟨u,e1,⟨a',m',c',vs',e2,by rw[KA]at e3;exact e3⟩,e4⟩)) (λu w' h=>hB.go h.2) ?_ yn;rintro _ u2⟨⟨a8,m8,c8,vs8,rfl,hP8⟩,hb8⟩;have l8:=hP8.ll;have lE:(entsR (ext p t)).length=(entsR t).length:=by simp[entsR]
 refine Dz [9] ?_;replace hB:=hB.go hb8;refine Yc 9 (R:=RB7 (u2) t) (hBy _ hB _ _ _ _ _ hP8 (by omega)) (λu w' h=>hB.go h.2) ?_ yn;rintro _ u3⟨⟨a9,m9,c9,rfl,hs9,hm9⟩,hb9⟩;have l9:=hs9.len;refine Dz [10] ?_;replace hB:=hB.go hb9;refine Yc 10 (R:=λu w'=>(∃y:RV,u= .agg y.cells.toArray/\RefAt (Own (u3).heap.size w') w' y (referP (encT t)))/\Bl (u3) w') (SU hs9 (by omega)) (λu w' h=>hB.go h.2) ?_ yn;rintro _ u4⟨⟨y,rfl,hRf⟩,hb10⟩;replace hrN:=(((hrN.go hb3).drew).go hb8).go hb9;have hq10:gN<_:=lt_of_get hrN;have hyl:y.d.length=32:=by rw[hRf.2.1];exact hRf.2.2.2.1
 replace hB:=hB.go hb10;refine Dx [] 11 (og f74 5 11) (.agg (NV.cells ⟨2,a6,n6,c6,none,0,0,y,none,0,0⟩).toArray) (λv hv _=>Fs 92 _ [(0, .int .i64 2),(1, .slice a6 n6 c6),(3, .agg y.cells.toArray)] _ rfl (by kernel_rfl) (GU _ _ _ _ hyl)) hB<|Dz [12] ?_;replace hrN:=hrN.go hb10;refine Yy 12 (og f74 5 12) gN ((NV.cells ⟨2,a6,n6,c6,none,0,0,y,none,0,0⟩).toArray) (λ_=>CH 92 _ _ _ _ _ _ rfl (by kernel_rfl) (by kernel_rfl) hrN (by rw[I6,IL (y:=⟨2,a6,n6,c6,none,0,0,y,none,0,0⟩) hyl]) (by rw[IL (y:=⟨2,a6,n6,c6,none,0,0,y,none,0,0⟩) hyl];rfl) (Rd _)) (λw' h=>h.below hB (by omega) hB.size) ?_ yn;intro w5 hp6;have hrC:Rw gN w5 (NV.cells ⟨2,a6,n6,c6,none,0,0,y,none,0,0⟩).toArray 92:=hp6.row hrN;replace hB:=hp6.below hB (by omega) hB.size;have hRE:=RefAt.go (L:=λ_=>True) (λb hb _=>⟨hp6.other (by have:=hb.1;omega),trivial⟩) hRf;refine Do ?_;exact UX 3 (.agg (NV.cells ⟨2,a6,n6,c6,none,0,0,y,none,0,0⟩).toArray) (λ_=>FE results74 _ gN ⟨2,a6,n6,c6,none,0,0,y,none,0,0⟩ hyl (by kernel_rfl) hrC) ⟨_,rfl,⟨⟨2,a6,n6,c6,none,0,0,y,none,0,0⟩,rfl,⟨rfl,(hs7.go hB).agk (by omega),Lg _,hRE,⟨rfl,Aa _,Ay _,Ay _,λ_=>⟨rfl,rfl⟩⟩,λj r hr=>by simp[nodeP]at hr⟩⟩,hB⟩
end Go.Proofs.YtalhnnjpjaeakaaGreat
namespace Go.Proofs.YtalhnnjpjaeakaaGreat
open Ni (rightP)
def emptyP(r:PR):Bool:=decide (r.k=0)&&decide (r.d=z32)&&decide (r.i.length=0)
def refersP(dk:List Int->Int)(r:PR)(br:Bool):Bool:=
 if r.k=0 then emptyP r&&!br
 else if r.k=2 then decide (r.i.length=0)
 else if r.k=1 then(if 32<=r.i.length∨r.d≠z32 then false else decide (dk r.i≠0)&&(!br||decide (dk r.i=3)))
 else false
def refers16(dk:List Int->Int)(ks:List PR):Bool:=ks.all λr=>refersP dk r false
def drightP(dk:List Int->Int)(n:PN):Bool:=
 if rightP n.p=false∨64<n.p.length∨256<n.v.length then false
 else if n.k=1 then decide (1<=n.v.length)&&emptyP n.c&&decide (n.ks.length=0)
 else if n.k=2 then refersP dk n.c true&&decide (1<=n.p.length)&&decide (n.v.length=0)&&decide (n.ks.length=0)
 else if n.k≠3∨n.ks.length≠16∨n.p.length≠0∨emptyP n.c=false then false
 else refers16 dk n.ks&&(decide (2<=ways n.ks)||(decide (ways n.ks=1)&&decide (0<n.v.length)))
theorem OI(dk:List Int->Int)(r:PR):refersP dk r false=rrefP dk r:=by
 unfold refersP rrefP emptyP;by_cases h0:r.k=0
 ·simp[h0]
 ·by_cases h2:r.k=2
  ·simp[h2]
  ·by_cases h1:r.k=1
   ·by_cases h32:32<=r.i.length
    ·simp[h1,h32,show¬r.i.length<32 from by omega]
    ·by_cases hd:r.d=z32
     ·simp[h1,hd,show r.i.length<32 from by omega,show¬32<=r.i.length from h32]
     ·simp[h1,hd]
   ·simp[h0,h1,h2]
theorem U0(dk:List Int->Int)(r:PR):emptyP r=(rrefP dk r&&decide (r.k=0)):=by
 unfold emptyP rrefP;by_cases h0:r.k=0
 ·simp[h0]
 ·simp[h0]
theorem PV(dk:List Int->Int)(h0:dk []=0)(r:PR):refersP dk r true=(rrefP dk r&&(decide (r.k=2)||decide (dk r.i=3))):=by
 unfold refersP rrefP emptyP;by_cases hk0:r.k=0
 ·by_cases hi:r.i=[]
  ·simp[hk0,hi,h0]
  ·simp[hk0,hi]
 ·by_cases h2:r.k=2
  ·simp[h2]
  ·by_cases h1:r.k=1
   ·by_cases h32:32<=r.i.length
    ·simp[h1,h32,show¬r.i.length<32 from by omega]
    ·by_cases hd:r.d=z32
     ·simp[h1,hd,show r.i.length<32 from by omega,show¬32<=r.i.length from h32]
     ·simp[h1,hd]
   ·simp[hk0,h1,h2]
theorem U1(dk:List Int->Int)(h0:dk []=0)(n:PN):drightP dk n=nright dk n:=by
 unfold drightP nright knownP rpathP rvalueP rchildP rkidsP refers16;rw[PV dk h0,U0 dk];have hall:(n.ks.all λr=>refersP dk r false)=n.ks.all (rrefP dk):=by congr 1;funext r;exact OI dk r
 rw[hall];have hp0:n.p.length=0->rightP n.p=true:=λh=>by rw[Ar h];rfl
 by_cases k1:n.k=1
 ·by_cases hp:rightP n.p=true
  ·by_cases hl:n.p.length<=64
   ·by_cases hv:n.v.length<=256
    ·cases hr:rrefP dk n.c
     ·simp[k1,hp]
     ·by_cases hv0:n.v=[]
      ·simp[k1,hp,hv0]
      ·have:1<=n.v.length:=BC.2 hv0;by_cases hc:n.c.k=0
       ·simp[k1,hp,hv0,hl,hv,this,hc,show¬64<n.p.length from by omega,show¬256<n.v.length from by omega]
       ·simp[k1,hp,hv0,hl,hv,this,hc]
    ·simp[k1,hv,show 256<n.v.length from by omega]
   ·simp[k1,hl,show 64<n.p.length from by omega]
  ·simp[k1,hp]
 ·by_cases k2:n.k=2
  ·by_cases hp:rightP n.p=true
   ·by_cases hl:n.p.length<=64
    ·by_cases hp0':n.p=[]
     ·simp[k2,hp0']
     ·have h1:1<=n.p.length:=BC.2 hp0';by_cases hv0:n.v=[]
      ·cases hr:rrefP dk n.c
       ·simp[k2,hp,hv0]
       ·simp[k2,hp,hv0,hl,hp0',h1,show¬64<n.p.length from by omega]
      ·simp[k2,hv0]
    ·simp[k2,hl,show 64<n.p.length from by omega]
   ·simp[k2,hp]
  ·by_cases k3:n.k=3
   ·by_cases hp0':n.p=[]
    ·have hp:rightP n.p=true:=hp0 (by rw[hp0'];rfl);rw[hp0']at hp;by_cases hv:n.v.length<=256
     ·cases hr:rrefP dk n.c
      ·simp[k3,hp0']
      ·by_cases hc:n.c.k=0
       ·by_cases h16:n.ks.length=16
        ·by_cases hvp:0<n.v.length
         ·simp only[k3,hp0',hp,hc,h16,hvp];simp[hv,show¬256<n.v.length from by omega];congr 1;rw[Bg];simp;omega
         ·simp only[k3,hp0',hp,hc,h16,hvp];simp[hv,show¬256<n.v.length from by omega]
        ·simp[k3,hp0',h16]
       ·simp[k3,hp0',hc]
     ·simp[k3,hv,show 256<n.v.length from by omega]
    ·simp[k3,hp0']
   ·simp[k1,k2,k3]
end Go.Proofs.YtalhnnjpjaeakaaGreat
namespace Go.Proofs.YtalhnnjpjaeakaaGreat
theorem Mn(K:Nat->Prop)(x:RV)(r:PR)(w:World)(h:RefAt K w x r):
 Calls prog 130 #[.agg x.cells.toArray] w λe w'=>e= .returned (.bool (emptyP r))/\Below w.heap.size w w':=by
 have B:=Jt w x h.len;have HB:=Xba (below_new w (.cells x.cells.toArray 62));obtain⟨res,hres⟩:∃res,emptyP r=res:=⟨_,rfl⟩;rw[hres];unfold emptyP at hres;rw[<-h.1,<-h.2.1,h.2.2.2.2.l]at hres;have HRES:=Xba hres;have hl:=h.len;have hnb:=h.2.2.2.2.2.1;clear h hres;go_enter func130,ntmps130;go_upto_region 1 with fail;refine gen_w (p:=λv=>Code.wp _ _ _ _ v) (q:=λv=>RBx w.heap.size v x/\Below w.heap.size w v) ⟨B,HB.out⟩ ?_;clear B HB;rintro v⟨B,hb⟩;have HB:=Xba hb;have HX:=Xba B;have HLX:=Xba hl;have c0:=B.c0;have c1:=B.c33;clear hb B hl;by_cases h0:x.k=0
 ·by_cases hz:x.d=z32
  ·have HQ:=Xba (show(x.d==z32)=true from by simp[hz]);have HZ:=Xba hz;clear hz;go_wp2_with (first|refine E0 rfl _ rfl w.heap.size 1 rfl x.d HLX.out HX.out.digest ?_|refine G9 rfl _ _ rfl x.d z32 rfl rfl HLX.out El true HQ.out ?_);go_ret;refine⟨Av (λb=>Ending.returned (Value.bool b)) ?_,HB.out⟩;rw[<-HRES.out,Bg]
   first|(simp[h0,HZ.out];done)|(simp[h0,HZ.out];omega)
  ·have HQ:=Xba (show(x.d==z32)=false from by simp[hz]);have HZ:=Xba hz;clear hz;go_wp2_with (first|refine E0 rfl _ rfl w.heap.size 1 rfl x.d HLX.out HX.out.digest ?_|refine G9 rfl _ _ rfl x.d z32 rfl rfl HLX.out El false HQ.out ?_);go_ret;refine⟨Av (λb=>Ending.returned (Value.bool b)) ?_,HB.out⟩;rw[<-HRES.out,Bg]
   first|(simp[h0,HZ.out];done)|(simp[h0,HZ.out];omega)
 ·go_wp2_with fail;go_ret;refine⟨Av (λb=>Ending.returned (Value.bool b)) ?_,HB.out⟩;rw[<-HRES.out,Bg]
  first|(simp[h0];done)|(simp[h0];omega)
def DDPost(w:World)(o:Option PN):Ending->World->Prop:=λe w'=>Below w.heap.size w w'/\
 match o with
 |none=>e= .returned (.tuple #[.agg nz.cells.toArray, .int .i64 50])
 |some n=>∃y:NV,e= .returned (.tuple #[.agg y.cells.toArray, .int .i64 0])/\NodeAt (λg=>w.heap.size<=g) w' y n
def DDSaid(b:List Int):Prop:=∀(a:Option Addr)(n c:Nat)(w:World),Ag w a n c b->n<=140737488351232->Calls prog 142 #[.slice a n c] w (DDPost w (ND b))
theorem YH{b:List Int}(hb:isB b){w:World}{e:Ending}{w':World}(h:DDPost w (ND b) e w'):Below w.heap.size w w'/\∃y:NV,e= .returned (.tuple #[.agg y.cells.toArray, .int .i64 (if KD b=0 then 50 else 0)])/\y.k=KD b/\y.c.d.length=32:=by
 obtain⟨hb',hm⟩:=h;refine⟨hb',?_⟩;unfold KD;cases ho:ND b with
 |none=>rw[ho]at hm;exact⟨nz,hm,rfl,rfl⟩
 |some n=>
  rw[ho]at hm;obtain⟨y,e1,hy⟩:=hm;have h0:¬kd (some n)=0:=by
   have:=Ov (Nl hb ho).1;show¬n.k=0;omega
  rw[Ad h0];exact⟨y,e1,hy.k,hy.c.len⟩
theorem PW{br:Bool}(dk:Int):(decide (dk≠0)&&(!br||decide (dk=3)))=if dk=0 then false else if br=true then decide (dk=3)else true:=by
 cases br<;>by_cases h:dk=0<;>simp[h]
theorem Mo(K:Nat->Prop)(x:RV)(r:PR)(br:Bool)(w:World)(h:RefAt K w x r)(hd:r.i.length<32->DDSaid r.i):
 Calls prog 131 #[.agg x.cells.toArray, .bool br] w λe w'=>e= .returned (.bool (refersP KD r br))/\Below w.heap.size w w':=by
 have B:=Jt w x h.len;have HB:=Xba (below_new w (.cells x.cells.toArray 62));have HE:=Xba (show∀v,Below w.heap.size w v->Calls prog 130 #[.agg x.cells.toArray] v λe w'=>e= .returned (.bool (emptyP r))/\Below v.heap.size v w' from λv hv=>Mn K x r v (h.go (Keep.below hv)));have HD:=Xba (show x.n<32->∀v,Below w.heap.size w v->Calls prog 142 #[.slice x.a x.n x.c] v (DDPost v (ND r.i))from λhx v hv=>hd (by rw[h.2.2.2.2.l];exact hx) _ _ _ v (h.2.2.2.2.1.at hv) h.2.2.2.2.2.1);have HIB:=Xba h.2.2.2.2.1.b;obtain⟨res,hres⟩:∃res,refersP KD r br=res:=⟨_,rfl⟩;obtain⟨kr,hkr⟩:∃kr,KD r.i=kr:=⟨_,rfl⟩;obtain⟨em,hem⟩:∃em,emptyP r=em:=⟨_,rfl⟩;rw[hres];rw[hem]at HE;unfold refersP at hres;rw[PW,hkr,hem,<-h.1,<-h.2.1,h.2.2.2.2.l]at hres;have HRES:=Xba hres;have HKR:=Xba hkr;have hl:=h.len;have hnb:=h.2.2.2.2.2.1;clear h hd hkr hres hem;go_enter func131,ntmps131;go_upto_region 1 with fail;refine gen_w (p:=λv=>Code.wp _ _ _ _ v) (q:=λv=>RBx w.heap.size v x/\Below w.heap.size w v) ⟨B,HB.out⟩ ?_;clear B HB;rintro v⟨B,hb⟩;have HB:=Xba hb;have HX:=Xba B;have HLX:=Xba hl;have c0:=B.c0;have c1:=B.c33;clear hb B hl;by_cases h0:x.k=0
 ·go_wp2_with (first|refine Cz rfl _ rfl w.heap.size 0 rfl x HLX.out HX.out.all ?_);refine(HE.out v HB.out).mono ?_;rintro e w1⟨rfl,hb1⟩;have HB1:=Xba (below_go HB.out hb1);clear hb1;cases br<;>cases em
  all_goals go_wp2_with fail
  all_goals go_ret
  all_goals refine⟨Av (λb=>Ending.returned (Value.bool b)) ?_,HB1.out⟩
  all_goals rw[<-HRES.out]
  all_goals simp[h0]
 ·by_cases h2:x.k=2
  ·go_wp2_with fail;go_ret;refine⟨Av (λb=>Ending.returned (Value.bool b)) ?_,HB.out⟩;rw[<-HRES.out,Bg]
   first|(simp[h2];done)|(simp[h2];omega)
  ·by_cases h1:x.k=1
   ·by_cases h32:x.n<32
    ·have hi32:¬(x.n:Int)>=32:=(by omega);by_cases hz:x.d=z32
     ·have HQ:=Xba (show(!(x.d==z32))=false from by simp[hz]);have HZ:=Xba hz;clear hz;go_wp2_with (first|refine E0 rfl _ rfl w.heap.size 1 rfl x.d HLX.out HX.out.digest ?_|refine GA rfl _ _ rfl x.d z32 rfl rfl HLX.out El false HQ.out ?_);refine(HD.out h32 v HB.out).mono ?_;intro e w1 hp;obtain⟨hb1,y,rfl,hyk,hyl⟩:=YH HIB.out hp;rw[HKR.out]at hyk;rw[HKR.out];have HB1:=Xba (below_go HB.out hb1);have HS:=Xba (show(nz.cells.toArray:Array Value).size=y.cells.toArray.size from by rw[VV,Bb,NV.len hyl]);have HI:=Xba (show(prog.info? 92).map (·.size)=some y.cells.toArray.size from by rw[I6,Bb,NV.len hyl]);have HO:=Xba (Am y.one);have HYK:=Xba hyk;have HYL:=Xba hyl;clear hp hb1 hyk hyl HD HB c0 c1;obtain⟨er,her⟩:∃er:Int,(if kr=0 then(50:Int)else 0)=er:=⟨_,rfl⟩;rw[her];have HER:=Xba her;clear her;go_upto_region 10 with(first|refine A4 rfl 92 _ _ rfl _ y.cells.toArray rfl rfl 92 _ (Ai w1 _) HI.out HS.out HO.out ?_);refine gen_w (p:=λv=>Code.wp _ _ _ _ v) (q:=λv=>NBx w1.heap.size v y/\Below w.heap.size w v) ⟨⟨AA _ _ _ _ _ _ (Ai w1 _),HYL.out⟩,Below.setRow (HB1.out.alloc HB1.out.size _) HB1.out.size _⟩ ?_;rintro v2⟨B,hb⟩;have d0:=B.c0;rw[HYK.out]at d0;have HB2:=Xba hb;clear B hb;by_cases hk0:kr=0
      ·have her:=HER.out;rw[Af hk0]at her;subst her;go_wp2_with fail;go_ret;refine⟨Av (λb=>Ending.returned (Value.bool b)) ?_,HB2.out⟩;rw[<-HRES.out];simp[h1,hk0]
      ·have her:=HER.out;rw[Ad hk0]at her;subst her;cases br
       ·go_wp2_with fail;go_ret;refine⟨Av (λb=>Ending.returned (Value.bool b)) ?_,HB2.out⟩;rw[<-HRES.out];simp[h1,hk0,HZ.out];omega
       ·by_cases hk3:kr=3
        ·go_wp2_with fail;go_ret;refine⟨Av (λb=>Ending.returned (Value.bool b)) ?_,HB2.out⟩;rw[<-HRES.out];simp[h1,hk3,HZ.out];omega
        ·go_wp2_with fail;go_ret;refine⟨Av (λb=>Ending.returned (Value.bool b)) ?_,HB2.out⟩;rw[<-HRES.out];simp[h1,hk3]
     ·have HQ:=Xba (show(!(x.d==z32))=true from by simp[hz]);have HZ:=Xba hz;clear hz;go_wp2_with (first|refine E0 rfl _ rfl w.heap.size 1 rfl x.d HLX.out HX.out.digest ?_|refine GA rfl _ _ rfl x.d z32 rfl rfl HLX.out El true HQ.out ?_);go_ret;refine⟨Av (λb=>Ending.returned (Value.bool b)) ?_,HB.out⟩;rw[<-HRES.out];simp[h1,HZ.out]
    ·have hi32:(x.n:Int)>=32:=(by omega);go_wp2_with fail;go_ret;refine⟨Av (λb=>Ending.returned (Value.bool b)) ?_,HB.out⟩;rw[<-HRES.out];simp[h1,show 32<=x.n from by omega]
   ·go_wp2_with fail;go_ret;refine⟨Av (λb=>Ending.returned (Value.bool b)) ?_,HB.out⟩;rw[<-HRES.out];simp[h0,h2,h1]
end Go.Proofs.YtalhnnjpjaeakaaGreat
namespace Go.Proofs.YtalhnnjpjaeakaaGreat.Ni
theorem rright_any(a:Option Addr)(n c:Nat)(b:List Int)(w:World)(h:Ag w a n c b)(hn:n<=140737488355328):
 Calls prog 72 #[.slice a n c] w λe w'=>e= .returned (.bool (rightP b))/\w'=w:=by
 have HL:=Xba h.l;have HC:Hid (0<n->∃g off,a=some ⟨g,off,none⟩/\n<=c/\c<=maxLen/\∀j,j<n->w.cell? ⟨g,off+j,none⟩=some (.int .u8 (b.getD j 0))):=Xba (ag_head h);have HB:=Xba h.b;clear h;obtain⟨res,hres⟩:∃r,rightP b=r:=⟨_,rfl⟩;rw[hres];have HRES:=Xba hres;clear hres;go_enter func72,ntmps72;go_wp2_with fail
 go_loopw [3] (λi v=>∃j:Nat,j<=n/\i= .int .i64 j/\(∀i,i<j->b.getD i 0<=15)/\v=w) (λi _=>n-(intOf i).toNat)
 case atStart=>exact⟨0,by omega,rfl,λi hi=>by omega,rfl⟩
 case round=>
  obtain⟨j,hj,rfl,hle,rfl⟩:=hrel;have HLE:=Xba hle;clear hle;by_cases hlt:j<n
  ·obtain⟨g,off,rfl,hnc,hcm,hcs⟩:=HC.out (by omega);unfold maxLen at hcm;have hcell:=hcs j hlt;have hx:=HB.out _ (getD_mem (show j<b.length by have:=HL.out;omega));have HX:Hid (b.getD j 0>15->rightP b=false):=Xba (λh=>OW (by have:=HL.out;omega) h)
   have HY:Hid (b.getD j 0<=15->∀i,i<j+1->b.getD i 0<=15):=Xba (λh i hi=>by
    by_cases e:i=j
    ·rw[e];exact h
    ·exact HLE.out i (by omega))
   generalize b.getD j 0=x at hcell hx HX HY;obtain⟨hx0,hx1⟩:=hx;have hji:(j:Int)<n:=(by omega);clear hcs;by_cases h15:x>15
   ·have e:res=false:=HRES.out.symm.trans (HX.out h15);subst e;go_wp2_with fail;go_ret;exact⟨rfl,rfl⟩
   ·have h15':¬x>15:=h15;go_wp2_with fail;exact⟨⟨j+1,by omega,by simp,HY.out (by omega),trivial⟩,by simp[intOf];omega⟩
  ·have hji:¬(j:Int)<n:=(by omega);have e:res=true:=HRES.out.symm.trans (MR λi hi=>HLE.out i (by have:=HL.out;omega));subst e;go_wp2_with fail;go_ret;exact⟨rfl,rfl⟩
end Go.Proofs.YtalhnnjpjaeakaaGreat.Ni
namespace Go.Proofs.YtalhnnjpjaeakaaGreat
open Ni (rightP)
variable {w : World} {ys : List V} {ts : List T}
theorem Xae:KD []=0:=by
 apply DE;intro h;obtain⟨n,hn,_⟩:=Jl h;obtain⟨t,ht,_⟩:=Ga (b:=[]) (λx hx=>by simp at hx) hn;have:=G7 (b:=[]) (λx hx=>by simp at hx) ht;have h1:=Jh t;rw[this.1]at h1;simp at h1
theorem Hh(K:Nat->Prop)(x:NV)(n:PN)(w:World)(h:NodeAt K w x n)(hd:∀r,(r=n.c∨r∈n.ks)->r.i.length<32->DDSaid r.i):
 Calls prog 104 #[.agg x.cells.toArray] w λe w'=>e= .returned (.bool (NR n))/\Below w.heap.size w w':=by
 have B:=E8 w x h.c.len;have HB:=Xba (below_new w (.cells x.cells.toArray 92));obtain⟨q1,hq1⟩:∃q,rightP n.p=q:=⟨_,rfl⟩;obtain⟨q2,hq2⟩:∃q,emptyP n.c=q:=⟨_,rfl⟩;obtain⟨q3,hq3⟩:∃q,refersP KD n.c true=q:=⟨_,rfl⟩;have hpb:=h.p.2.1;have hvb:=h.v.2.1
 have H1:=Xba (show∀v,Below w.heap.size w v->Calls prog 72 #[.slice x.pa x.pn x.pc] v λe w'=>e= .returned (.bool q1)/\w'=v from λv hv=>by
  rw[<-hq1];exact Ni.rright_any _ _ _ _ v (h.p.1.at hv) (by omega))
 have H2:=Xba (show∀v,Below w.heap.size w v->Calls prog 130 #[.agg x.c.cells.toArray] v λe w'=>e= .returned (.bool q2)/\Below v.heap.size v w' from λv hv=>by
  rw[<-hq2];exact Mn K x.c n.c v (h.c.go (Keep.below hv)))
 have H3:=Xba (show∀v,Below w.heap.size w v->Calls prog 131 #[.agg x.c.cells.toArray, .bool true] v λe w'=>e= .returned (.bool q3)/\Below v.heap.size v w' from λv hv=>by
  rw[<-hq3];exact Mo K x.c n.c true v (h.c.go (Keep.below hv)) (hd _ (.inl rfl)))
 have HD:=Xba (show∀r∈n.ks,r.i.length<32->DDSaid r.i from λr hr=>hd r (.inr hr));have HKS:=Xba h.ks;have hm:=h.m;have HKL:=Xba hm.1;obtain⟨-,hm2,hm3,hm4,hm5⟩:=hm;unfold maxLen at hm3;have HM5:=Xba hm5;obtain⟨res,hres⟩:∃res,NR n=res:=⟨_,rfl⟩;rw[hres];unfold NR at hres;rw[<-U1 KD Xae]at hres;unfold drightP at hres;rw[hq1,hq2,hq3,h.p.l,h.v.l,<-h.k,<-HKL.out]at hres;have HRES:=Xba hres;have HLC:=Xba h.c.len;clear h hd hres hm5 hq1 hq2 hq3;go_enter func104,ntmps104;go_upto_region 1 with fail;refine gen_w (p:=λv=>Code.wp _ _ _ _ v) (q:=λv=>NBx w.heap.size v x/\Below w.heap.size w v) ⟨B,HB.out⟩ ?_;clear B HB;rintro v⟨B,hb⟩;have HB:=Xba hb;have HX:=Xba B;have c0:=B.c0;have c1:=B.c1;have c2:=B.c2;have c37:=B.c37;obtain⟨ka,hka0⟩:∃ka,x.ka=ka:=⟨_,rfl⟩;have HKA:=Xba hka0;rw[hka0]at c37 HKS HM5;clear hb B hka0;go_wp2_with fail;refine(H1.out v HB.out).mono ?_;rintro e w1⟨rfl,rfl⟩;cases q1 with
 |false=>
  go_wp2_with fail;go_ret;refine⟨Av (λb=>Ending.returned (Value.bool b)) ?_,HB.out⟩;rw[<-HRES.out];simp
 |true=>
  by_cases h64:64<x.pn
  ·have h64i:(x.pn:Int)>64:=(by omega);go_wp2_with fail;go_ret;refine⟨Av (λb=>Ending.returned (Value.bool b)) ?_,HB.out⟩;rw[<-HRES.out];simp[h64]
  ·have h64i:¬(x.pn:Int)>64:=(by omega);by_cases h256:256<x.vn
   ·have h256i:(x.vn:Int)>256:=(by omega);go_wp2_with fail;go_ret;refine⟨Av (λb=>Ending.returned (Value.bool b)) ?_,HB.out⟩;rw[<-HRES.out];simp[h256]
   ·have h256i:¬(x.vn:Int)>256:=(by omega);have hres:=HRES.out;rw[Ad (by simp[h64,h256])]at hres;have HRES:=Xba hres;clear hres;by_cases k1:x.k=1
    ·by_cases hv1:1<=x.vn
     ·have hv1i:(x.vn:Int)>=1:=(by omega);go_wp2_with (first|refine Cz rfl _ rfl w.heap.size 3 rfl x.c HLC.out HX.out.child ?_);refine(H2.out _ HB.out).mono ?_;rintro e w2⟨rfl,hb2⟩;have d37:=(HX.out.go hb2).c37;have HB2:=Xba (below_go HB.out hb2);rw[HKA.out]at d37;clear hb2;cases q2
      all_goals go_wp2_with fail
      all_goals go_ret
      all_goals refine⟨Av (λb=>Ending.returned (Value.bool b)) ?_,HB2.out⟩
      all_goals rw[<-HRES.out,Bg]
      all_goals first|(simp[k1,hv1];done)|(simp[k1,hv1];omega)
     ·have hv1i:¬(x.vn:Int)>=1:=(by omega);go_wp2_with fail;go_ret;refine⟨Av (λb=>Ending.returned (Value.bool b)) ?_,HB.out⟩;rw[<-HRES.out,Bg]
      first|(simp[k1,hv1];done)|(simp[k1,hv1];omega)
    ·by_cases k2:x.k=2
     ·go_wp2_with (first|refine Cz rfl _ rfl w.heap.size 3 rfl x.c HLC.out HX.out.child ?_);refine(H3.out _ HB.out).mono ?_;rintro e w2⟨rfl,hb2⟩;have d1:=(HX.out.go hb2).c1;have d2:=(HX.out.go hb2).c2;have d37:=(HX.out.go hb2).c37;have HB2:=Xba (below_go HB.out hb2);rw[HKA.out]at d37;clear hb2;cases q3 with
      |false=>
       go_wp2_with fail;go_ret;refine⟨Av (λb=>Ending.returned (Value.bool b)) ?_,HB2.out⟩;rw[<-HRES.out];simp[k2]
      |true=>
       by_cases hp1:1<=x.pn
       ·have hp1i:(x.pn:Int)>=1:=(by omega);by_cases hv0:x.vn=0
        ·have hv0i:(x.vn:Int)=0:=(by omega);have hv0b:((x.vn:Int)==0)=true:=(by simp[hv0]);have HV:=Xba hv0;clear hv0 hv0i;go_wp2_with fail;go_ret;refine⟨Av (λb=>Ending.returned (Value.bool b)) ?_,HB2.out⟩;rw[<-HRES.out,Bg]
         first|(simp[k2,hp1,HV.out];done)|(simp[k2,hp1,HV.out];omega)
        ·have hv0b:((x.vn:Int)==0)=false:=(by simp;omega);have HV:=Xba hv0;clear hv0;go_wp2_with fail;go_ret;refine⟨Av (λb=>Ending.returned (Value.bool b)) ?_,HB2.out⟩;rw[<-HRES.out,Bg]
         first|(simp[k2,hp1,HV.out];done)|(simp[k2,hp1,HV.out];omega)
       ·have hp1i:¬(x.pn:Int)>=1:=(by omega);go_wp2_with fail;go_ret;refine⟨Av (λb=>Ending.returned (Value.bool b)) ?_,HB2.out⟩;rw[<-HRES.out,Bg]
        first|(simp[k2,hp1];done)|(simp[k2,hp1];omega)
     ·by_cases k3:x.k=3
      ·by_cases h16:x.kn=16
       ·have H16:=Xba h16;rw[h16]at HKL c37 hm2 hm4;clear h16;by_cases hp0:x.pn=0
        ·have hp0b:(!((x.pn:Int)==0))=false:=(by simp[hp0]);have HP:=Xba hp0;clear hp0;go_wp2_with (first|refine Cz rfl _ rfl w.heap.size 3 rfl x.c HLC.out HX.out.child ?_);refine(H2.out _ HB.out).mono ?_;rintro e w2⟨rfl,hb2⟩;have HX2:=Xba (HX.out.go hb2);have HB2:=Xba (below_go HB.out hb2);clear hb2;cases q2 with
         |false=>
          go_wp2_with fail;go_ret;refine⟨Av (λb=>Ending.returned (Value.bool b)) ?_,HB2.out⟩;rw[<-HRES.out];simp[k3]
         |true=>
          go_wp2_with fail
          go_loopw [5,6] (λs5 s6 u=>∃j:Nat,j<=16/\s6= .int .i64 j/\s5= .int .i64 ((ways (n.ks.take j):Nat):Int)/\(∀r∈n.ks.take j,refersP KD r false=true)/\NBx w.heap.size u x/\Below w.heap.size w u) (λ_ s6 _=>16-(intOf s6).toNat)
          case atStart=>exact⟨0,by omega,rfl,rfl,λr hr=>by simp at hr,HX2.out,HB2.out⟩
          case round=>
           obtain⟨j,hj,rfl,rfl,hall,hxv,hbv⟩:=hrel;have HALL:=Xba hall;have HBV:=Xba hbv;have HXV:=Xba hxv;have r2:=hxv.c2;have r37:=hxv.c37;rw[HKA.out,H16.out]at r37;clear hall hbv hxv;by_cases hlt:j<16
           ·have hji:(j:Int)<16:=(by omega);obtain⟨r,hr⟩:∃r,n.ks[j]?=some r:=⟨_,Ac (by have:=HKL.out;omega)⟩;obtain⟨g,off,y,hka,_,hrg,hy⟩:=HKS.out j r hr;have HRG:=Xba (ED hrg (λhl=>HBV.out.block g hl));have HRG0:=Xba hrg;have HYL:=Xba hy.len;obtain⟨q,hq⟩:∃q,refersP KD r false=q:=⟨_,rfl⟩
            have HRR:=Xba (show∀u,Below w.heap.size w u->Calls prog 131 #[.agg y.cells.toArray, .bool false] u λe w'=>e= .returned (.bool q)/\Below u.heap.size u w' from λu hu=>by
             rw[<-hq];exact Mo K y r false u (hy.go (Keep.below hu)) (HD.out r (AK hr)))
            have HQ:=Xba hq;have HR:=Xba hr;have hwl:ways (n.ks.take j)<=j:=(by have:=GF (n.ks.take j);rw[Ao]at this;omega);have HW:=Xba (show ways (n.ks.take (j+1))=ways (n.ks.take j)+(if y.k≠0 then 1 else 0)from by rw[DM hr,Is,hy.1]);clear hrg hy hq hr;subst hka;go_wp2_with (first|refine Cz rfl _ rfl g (off+j*34) rfl y HYL.out HRG.out ?_);refine(HRR.out _ HBV.out).mono ?_;rintro e w3⟨rfl,hb3⟩;have HX3:=Xba (HXV.out.go hb3);have s37:=HX3.out.c37;rw[HKA.out,H16.out]at s37;have HB3:=Xba (below_go HBV.out hb3);have sk:w3.cell? ⟨g,off+j*34,none⟩=some (.int .i64 y.k):=ED HRG0.out (λhl=>HB3.out.block g hl) 0 _ rfl;clear hb3;cases q with
            |false=>
             go_wp2_with fail;go_ret;refine⟨Av (λb=>Ending.returned (Value.bool b)) ?_,HB3.out⟩;rw[<-HRES.out];have hno:refers16 KD n.ks=false:=by
              unfold refers16;rw[List.all_eq_false];exact⟨r,AK HR.out,by rw[HQ.out];simp⟩
             rw[hno];simp[k3]
            |true=>
             have HALL2:=Xba (show∀r∈n.ks.take (j+1),refersP KD r false=true from λr' hr'=>by
              rw[DM HR.out]at hr';rcases AM.1 hr' with h|h
              ·exact HALL.out r' h
              ·simp only[Az,Cc,Ec]at h;rw[h];exact HQ.out)
             by_cases hk0:y.k=0
             ·have hw2:=HW.out;rw[Ad (by simp[hk0])]at hw2;have HW2:=Xba hw2;clear hw2;go_wp2_with fail
              go_roundw
              case rel=>exact⟨j+1,by omega,by simp,by rw[HW2.out];simp,HALL2.out,HX3.out,HB3.out⟩
              case measure=>simp[intOf];omega
             ·have hw2:=HW.out;rw[Af hk0]at hw2;have HW2:=Xba hw2;clear hw2;go_wp2_with fail
              go_roundw
              case rel=>exact⟨j+1,by omega,by simp,by rw[HW2.out];first|(simp;done)|(simp;omega),HALL2.out,HX3.out,HB3.out⟩
              case measure=>simp[intOf];omega
           ·have hji:¬(j:Int)<16:=(by omega);have e16:n.ks.take j=n.ks:=A5 (by have:=HKL.out;omega);rw[e16]at HALL⊢;have HYES:=Xba (show refers16 KD n.ks=true from List.all_eq_true.2 HALL.out);have hres:=HRES.out;rw[HYES.out,HP.out,H16.out,Ad (by rw[k3];decide),Ad (by rw[k3];decide),Ad (by simp[k3]),E7]at hres;have HRES:=Xba hres;have hwl:ways n.ks<=16:=(by have:=GF n.ks;have:=HKL.out;omega);generalize ways n.ks=ww at*;clear e16 hres;by_cases h2:2<=ww
            ·have h2i:(ww:Int)>=2:=(by omega);go_wp2_with fail;go_ret;refine⟨Av (λb=>Ending.returned (Value.bool b)) ?_,HBV.out⟩;rw[<-HRES.out];simp[h2]
            ·have h2i:¬(ww:Int)>=2:=(by omega);by_cases h1:ww=1
             ·have h1b:((ww:Int)==1)=true:=(by simp[h1]);have H1w:=Xba h1;clear h1;go_wp2_with fail;go_ret;refine⟨Av (λb=>Ending.returned (Value.bool b)) ?_,HBV.out⟩;rw[<-HRES.out,Bg]
              first|(simp[H1w.out];done)|(simp[H1w.out];omega)
             ·have h1b:((ww:Int)==1)=false:=(by simp;omega);have H1w:=Xba h1;clear h1;go_wp2_with fail;go_ret;refine⟨Av (λb=>Ending.returned (Value.bool b)) ?_,HBV.out⟩;rw[<-HRES.out,Bg]
              first|(simp[H1w.out,h2];done)|(simp[H1w.out,h2];omega)
        ·have hp0b:(!((x.pn:Int)==0))=true:=(by simp;omega);have HP:=Xba hp0;clear hp0;go_wp2_with fail;go_ret;refine⟨Av (λb=>Ending.returned (Value.bool b)) ?_,HB.out⟩;rw[<-HRES.out];simp[k3,HP.out]
       ·have h16i:¬(x.kn:Int)=16:=(by omega);have H16:=Xba h16;clear h16;go_wp2_with fail;go_ret;refine⟨Av (λb=>Ending.returned (Value.bool b)) ?_,HB.out⟩;rw[<-HRES.out];simp[k3,H16.out]
      ·have k3b:(!(x.k==3))=true:=(by simp[k3]);go_wp2_with fail;go_ret;refine⟨Av (λb=>Ending.returned (Value.bool b)) ?_,HB.out⟩;rw[<-HRES.out];simp[k1,k2,k3]
def AllL(w:World):List T->List V->Prop
 |[],[]=>True
 |t::ts,y::ys=>Lies w t y/\AllL w ts ys
 |_,_=>False
theorem AllL.len{w:World}:∀{ts:List T}{ys:List V},AllL w ts ys->ts.length=ys.length
 |[],[],_=>rfl
 |t::ts,y::ys,h=>by have:=AllL.len h.2;simp[this]
theorem AllP.lies{P:Nat->Prop}{w:World}:∀{ts:List T}{ys:List V},AllP P w ts ys->AllL w ts ys
 |[],[],_=>trivial
 |t::ts,y::ys,h=>⟨CX t y h.1,AllP.lies h.2⟩
theorem AllL.snoc{w:World}{t:T}{y:V}(h1:Lies w t y):∀{ts:List T}{ys:List V},AllL w ts ys->AllL w (ts++[t]) (ys++[y])
 |[],[],_=>⟨h1,trivial⟩
 |_::ts,_::ys,h=>⟨h.1,AllL.snoc h1 h.2⟩
theorem NA{w:World}{g:Nat}{all:List V}(hc:∀j u,(all.flatMap V.cells)[j]?=some u->w.cell? ((⟨g,0,none⟩:Addr).add j)=some u):
 ∀(ts:List T)(ys pre:List V),all=pre++ys->AllL w ts ys->LiesAll w ts (some ⟨g,0,none⟩) pre.length
 |[],[],pre,_,_=>Dw
 |t::ts,y::ys,pre,e,h=>by
  have hr:=NA hc ts ys (pre++[y]) (by rw[e];simp) h.2;rw[Ab]at hr;refine liesAll_cons.2 ⟨⟨g,0,y,rfl,?_,?_,?_,h.1⟩,hr⟩
  ·have:=hc (pre.length*3+0) (.bool y.l) (by rw[e];exact Fk pre y ys 0 _ rfl);rw[BM]at this;simpa using this
  ·have:=hc (pre.length*3+1) (.slice y.ba y.bn y.bc) (by rw[e];exact Fk pre y ys 1 _ rfl);rw[BM]at this;rw[show 0+pre.length*3+1=0+(pre.length*3+1)from by omega];exact this
  ·have:=hc (pre.length*3+2) (.slice y.ia y.m y.ic) (by rw[e];exact Fk pre y ys 2 _ rfl);rw[BM]at this;rw[show 0+pre.length*3+2=0+(pre.length*3+2)from by omega];exact this
theorem Kd{base:Nat}{v:Value}(hown:OwnI w base v ys)(h:AllL w ts ys):
 ∃ia ic,v= .slice ia ts.length ic/\ts.length<=ic/\ic<=maxLen/\LiesAll w ts ia 0:=by
 have hl:=h.len;rcases hown.2 with⟨rfl,hn0⟩|⟨g,cap,cur,rfl,hbg,hg,hnc,hcm,hcs,htake⟩
 ·have:ts=[]:=Ar (by omega);subst this;exact⟨none,0,rfl,Aa _,by unfold maxLen;omega,Dw⟩
 ·exact⟨some ⟨g,0,none⟩,cap,by rw[hl],by omega,hcm,NA (DN hown (g:=g) rfl) ts ys [] rfl h⟩
theorem Rh{w0 wr w1:World}{it:Value}{y:V}{t:T}(hb0:Below w0.heap.size w0 w)(hown:OwnI wr w.heap.size it ys)(hall:AllP (λb=>w.heap.size<=b/\it.ownBlock≠some b) wr ts ys)(hbel:Below w.heap.size w wr)(hb1:Below wr.heap.size wr w1)
 (hy:Lies w0 t y) (hlen:ys.length<=1000000000) (ty:TypeId):
 ∃v' w3,(Builtin.append_ #[108,108] ty #[it, .slice (some ⟨w1.heap.size,0,none⟩) 1 1]).run prog (w1.alloc (.cells #[.bool y.l, .slice y.ba y.bn y.bc, .slice y.ia y.m y.ic] 110))= .ok v' w3/\
  Below w.heap.size w w3/\w1.heap.size<=w3.heap.size/\
  ∃ia ic,v'= .slice ia (ts.length+1) ic/\ts.length+1<=ic/\ic<=maxLen/\∀w4,w3.heap.size<=w4.heap.size->(∀b,w.heap.size<=b->b<w3.heap.size->w4.heap[b]?=w3.heap[b]?)->Below w0.heap.size w0 w4->LiesAll w4 (ts++[t]) ia 0:=by
 obtain⟨Y,hY⟩:∃Y:Obj,Obj.cells #[.bool y.l, .slice y.ba y.bn y.bc, .slice y.ia y.m y.ic] 110=Y:=⟨_,rfl⟩;rw[hY];have hs2:(w1.alloc Y).heap.size=w1.heap.size+1:=by simp
 have hb2:Below wr.heap.size wr (w1.alloc Y):=hb1.alloc hb1.size _;have hz:=hbel.size;have hz1:=hb1.size;have hblk:(w1.alloc Y).heap[w1.heap.size]?=some Y:=Ai w1 Y;have hnews:∀j u,(V.cells y)[j]?=some u->(w1.alloc Y).cell? ((⟨w1.heap.size,0,none⟩:Addr).add j)=some u:=by
  intro j u hu;rw[BM,AD];rw[<-hY]at hblk⊢;rw[Ae _ _ _ _ _ _ hblk];simpa[V.cells]using hu
 obtain⟨v',w3,hrun,hown3,hgr,hown4⟩:=Jg (DZ hown λg _ hg=>hb2.block g hg) y _ 1 hnews (by omega) hlen ty;have hfar:∀b,b<w1.heap.size+1->it.ownBlock≠some b->w3.heap[b]?=(w1.alloc Y).heap[b]?:=λb hb hne=>hgr.block b (by rw[hs2];exact hb) (λh=>hne h.symm);have hz3:w1.heap.size<=w3.heap.size:=by have:=hgr.size;omega
 have hB3:Below w.heap.size w w3:=by
  refine hbel.trans ⟨hgr.os.trans hb2.os,hgr.tape.trans hb2.tape,hgr.output.trans hb2.output,Al hb2.size hgr.size,λb hb=>?_⟩;rw[hfar b (by omega) (λh=>by have:=(EX hown h).1;omega)];exact hb2.block b (by omega)
 have hall3:AllP (λb=>w.heap.size<=b) w3 ts ys:=hall.mono λb hb hlt=>⟨by rw[hfar b (by omega) hb.2];exact hb2.block b hlt,hb.1⟩;refine⟨v',w3,hrun,hB3,hz3,?_⟩;have key:∀w4,w3.heap.size<=w4.heap.size->(∀b,w.heap.size<=b->b<w3.heap.size->w4.heap[b]?=w3.heap[b]?)->Below w0.heap.size w0 w4->∃ia ic,v'= .slice ia (ts++[t]).length ic/\(ts++[t]).length<=ic/\ic<=maxLen/\LiesAll w4 (ts++[t]) ia 0:=λw4 h1 h2 h3=>
  Kd (DZ hown3 λg hg hlt=>h2 g (EX hown3 hg).1 hlt) (AllL.snoc (Ci h3 t y hy) (AllP.lies (P:=λb=>w.heap.size<=b) (hall3.mono λb hb hlt=>⟨h2 b hb hlt,hb⟩)))
 obtain⟨ia,ic,e1,e2,e3,_⟩:=key w3 (Aa _) (λ_ _ _=>rfl) (below_go hb0 hB3);rw[Ab]at e1 e2;refine⟨ia,ic,e1,e2,e3,λw4 h1 h2 h3=>?_⟩;obtain⟨ia',ic',e1',_,_,hl⟩:=key w4 h1 h2 h3;rw[e1,Ab]at e1';injection e1' with q1 q2 q3;rw[q1];exact hl
end Go.Proofs.YtalhnnjpjaeakaaGreat
