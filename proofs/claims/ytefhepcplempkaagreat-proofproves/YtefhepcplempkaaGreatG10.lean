/- What refItem answers. -/
import Derived.Test.YtefhepcplempkaaGreatAK
import Derived.Test.YtefhepcplempkaaGreatG09
import Derived.Test.YtefhepcplempkaaGreatG03
import Derived.Test.YtefhepcplempkaaGreatG01
import Derived.Lib.SlBytesConst
import Derived.Test.YtefhepcplempkaaGreatG00
set_option linter.unusedVariables false
set_option maxRecDepth 100000
set_option maxHeartbeats 4000000
open Go.Proofs.Tryz Go.RowKit
namespace Go.Proofs.YtefhepcplempkaaGreat
variable {w : World} {g : Nat} {b : List Int} {x : RV}
theorem Qu(h:Row g w b)(o:Nat):w.frozen? ⟨g,o,none⟩=false:=AY _ _ _ _ _ h
theorem GC{P:Nat->Prop}{n:Nat}(h:Row g w b)(hl:b.length=n)(hb:isB b)(hn:n<=140737488351232)(hP:P g):LiesP P w (.mk false b []) ⟨false,some ⟨g,0,none⟩,n,n,none,0,0⟩:=
 liesP_eq.2 ⟨⟨rfl,row_ag (n:=n) h hl hb (Ar hn (by omega)),rfl,Aa _,AD _,⟨hn,AD _⟩,λg' off e _=>by cases e;exact⟨hP,Qu h⟩⟩,D9⟩
theorem IW(P:Nat->Prop)(w:World):LiesP P w t0 ⟨false,none,0,0,none,0,0⟩:=
 liesP_eq.2 ⟨⟨rfl,⟨.inl ⟨rfl,rfl⟩,λ_=>⟨rfl,rfl⟩,rfl,λx hx=>by cases hx⟩,rfl,Aa _,AD _,⟨AD _,AD _⟩,λg off e=>by cases e⟩,D9⟩
structure Ri(w v:World)(x:RV):Prop where
 row:v.heap[w.heap.size+1]?=some (.cells #[.bool false, .slice none 0 0, .slice none 0 0] 109)
 bx:RBx w.heap.size v x
 bel:Below w.heap.size w v
 sz:w.heap.size+2<=v.heap.size
theorem Ri.go{v v':World}(h:Ri w v x)(hb:Below v.heap.size v v'):Ri w v' x:=⟨Below.row hb h.row,h.bx.go hb,below_go h.bel hb,Ar h.sz hb.size⟩
theorem Vs(w:World)(x:RV)(hl:x.d.length=32):Ri w ((w.alloc (.cells x.cells.toArray 65)).alloc (.cells #[.bool false, .slice none 0 0, .slice none 0 0] 109)) x:=by
 have s1:(w.alloc (.cells x.cells.toArray 65)).heap.size=w.heap.size+1:=by simp
 refine⟨?_,(J4 w x hl).go (below_new _ _),below_go (below_new w _) (below_new _ _),by simp⟩;have:=Aj (w.alloc (.cells x.cells.toArray 65)) (.cells #[.bool false, .slice none 0 0, .slice none 0 0] 109);rwa [s1]at this
theorem Ri.x0{v:World}(h:Ri w v x):v.cell? ⟨w.heap.size+1,0,none⟩=some (.bool false):=by rw[Ad _ _ _ _ _ _ h.row];rfl
theorem Ri.x1{v:World}(h:Ri w v x):v.cell? ⟨w.heap.size+1,1,none⟩=some (.slice none 0 0):=by rw[Ad _ _ _ _ _ _ h.row];rfl
theorem Ri.x2{v:World}(h:Ri w v x):v.cell? ⟨w.heap.size+1,2,none⟩=some (.slice none 0 0):=by rw[Ad _ _ _ _ _ _ h.row];rfl
theorem Ri.xf{v:World}(h:Ri w v x):∀o,v.frozen? ⟨w.heap.size+1,o,none⟩=false:=λo=>AY _ _ _ _ _ h.row
def IPost(w:World)(t:T):Ending->World->Prop:=λe w'=>(∃y:V,e= .returned (.agg #[.bool y.l, .slice y.ba y.bn y.bc, .slice y.ia y.m y.ic])/\LiesP (λb=>w.heap.size<=b) w' t y)/\Below w.heap.size w w'
theorem Fd{v:World}{t:T}{y:V}(h:Ri w v x)(hy:LiesP (λb=>w.heap.size+2<=b) v t y):
 IPost w t (.returned (.agg #[.bool y.l, .slice y.ba y.bn y.bc, .slice y.ia y.m y.ic])) (((v.setCell ⟨w.heap.size+1,0,none⟩ (.bool y.l)).setCell ⟨w.heap.size+1,1,none⟩ (.slice y.ba y.bn y.bc)).setCell ⟨w.heap.size+1,2,none⟩ (.slice y.ia y.m y.ic)):=
 ⟨⟨y,rfl,B6 (λb hb hlt=>⟨D3 (by omega) _ _ _,by omega⟩) _ _ hy⟩,Ch h.bel (by omega) _ _ _⟩
theorem K6(K:Nat->Prop)(x:RV)(r:PR)(w:World)(h:RefAt K w x r):
 Calls prog 117 #[.agg x.cells.toArray] w (IPost w (refItemP r)):=by
 have HRI:=ZQ (Vs w x h.len);have HH:=ZQ h;have HLX:=ZQ h.len;obtain⟨res,hres⟩:∃res,refItemP r=res:=⟨_,rfl⟩;rw[hres];unfold refItemP at hres;rw[<-h.1]at hres;have HRES:=ZQ hres;clear h hres;go_enter func117,ntmps117;go_upto_region 1 with fail;refine gen_w (p:=λv=>Code.wp _ _ _ _ v) (q:=λv=>Ri w v x) HRI.out ?_;clear HRI;intro v R0;have c0:=R0.bx.c0;have c33:=R0.bx.c33;have HR0:=ZQ R0;clear R0;by_cases h1:x.k=1
 ·have hr:=HRES.out;rw[if_pos h1]at hr;have HCD:=ZQ (LF x.a x.n x.c r.i v (HH.out.2.2.2.2.1.at HR0.out.bel) HH.out.2.2.2.2.2.1);have HR:=ZQ hr;clear hr HRES;go_wp2_with fail;refine HCD.out.mono ?_;intro e w1 hp;obtain⟨hb1,hp⟩:=hp;have HR1:=ZQ (HR0.out.go hb1);have HS0:=ZQ HR0.out.sz;have hr:=HR.out;cases hq:decP r.i with
  |bad er=>
   rw[hq]at hp hr;have hr:t0=res:=hr;subst hr;obtain⟨rfl,her⟩:=hp;clear hb1 hq her;go_upto_region 4 with fail;refine gen_w (p:=λv=>Code.wp _ _ _ _ v) (q:=λv=>Ri w v x/\B1 w1.heap.size v ⟨false,none,0,0,none,0,0⟩) ⟨HR1.out.go (below_new w1 _),EP w1 ⟨false,none,0,0,none,0,0⟩⟩ ?_;rintro v2⟨R2,B2⟩;have x0:=R2.x0;have x1:=R2.x1;have x2:=R2.x2;have xf:=R2.xf;have d0:=B2.c0;have d1:=B2.c1;have d2:=B2.c2;have HR2:=ZQ R2;clear R2 B2 c0 c33;go_wp2_with fail;have hr:=put3 HR2.out.row (.bool false) (.slice none 0 0) (.slice none 0 0);refine bodyPost_ret (results_cell_row results117 _ _ (w.heap.size+1) 109 _ (0,0) _ rfl hr underlying109 rfl (by kernel_rfl)) rfl ?_;exact Fd (y:=⟨false,none,0,0,none,0,0⟩) HR2.out (IW _ _)
  |ok t=>
   rw[hq]at hp hr;have hr:t=res:=hr;subst hr;obtain⟨y,rfl,hy⟩:=hp;have HY:=ZQ (show LiesP (λb=>w.heap.size+2<=b) w1 t y from B6 (λb hb hlt=>⟨rfl,by have:=HS0.out;omega⟩) _ _ hy);clear hb1 hq hy;go_upto_region 4 with fail;refine gen_w (p:=λv=>Code.wp _ _ _ _ v) (q:=λv=>Ri w v x/\B1 w1.heap.size v y/\LiesP (λb=>w.heap.size+2<=b) v t y) ⟨HR1.out.go (below_new w1 _),EP w1 _,B6 (λb hb hlt=>⟨heap_alloc_old _ _ hlt,hb⟩) _ _ HY.out⟩ ?_;rintro v2⟨R2,B2,L2⟩;have x0:=R2.x0;have x1:=R2.x1;have x2:=R2.x2;have xf:=R2.xf;have d0:=B2.c0;have d1:=B2.c1;have d2:=B2.c2;have HR2:=ZQ R2;have HL2:=ZQ L2;clear R2 B2 L2 c0 c33;go_wp2_with fail;have hr:=put3 HR2.out.row (.bool y.l) (.slice y.ba y.bn y.bc) (.slice y.ia y.m y.ic);refine bodyPost_ret (results_cell_row results117 _ _ (w.heap.size+1) 109 _ (0,0) _ rfl hr underlying109 rfl (by kernel_rfl)) rfl ?_;exact Fd HR2.out HL2.out
 ·by_cases h2:x.k=2
  ·have hr:=HRES.out;rw[if_neg h1,if_pos h2]at hr;subst hr;have hag:Ag v (some ⟨w.heap.size,1,none⟩) 32 32 r.d:=by
    have hd:=HR0.out.bx.digest;rw[HH.out.2.1]at hd;refine⟨.inr ⟨w.heap.size,1,rfl,HH.out.2.2.2.1,by omega,by omega,by unfold maxLen;omega,λj hj=>?_⟩,(λe=>by cases e),HH.out.2.2.2.1,HH.out.2.2.1⟩;exact hd j _ (by rw[List.getElem?_map,List.getD,List.getElem?_eq_getElem hj];rfl)
   have HTX:=ZQ (FD (some ⟨w.heap.size,1,none⟩) 32 32 r.d v hag (by omega));have HS0:=ZQ HR0.out.sz;have e1:(x.k==1)=false:=(by simp[h1]);clear hag;go_wp2_with fail;refine HTX.out.mono ?_;rintro e w1⟨rfl,hrow,hb1⟩;have R1:=HR0.out.go hb1;have x0:=R1.x0;have x1:=R1.x1;have x2:=R1.x2;have xf:=R1.xf;have HR1:=ZQ R1;have HY:=ZQ (GC (P:=λb=>w.heap.size+2<=b) hrow HH.out.2.2.2.1 HH.out.2.2.1 (by omega) (by have:=HS0.out;omega));clear hrow hb1 R1;go_wp2_with fail;have hr:=put3 HR1.out.row (.bool false) (.slice (some ⟨v.heap.size+1,0,none⟩) 32 32) (.slice none 0 0);refine bodyPost_ret (results_cell_row results117 _ _ (w.heap.size+1) 109 _ (0,0) _ rfl hr underlying109 rfl (by kernel_rfl)) rfl ?_;exact Fd (y:=⟨false,some ⟨v.heap.size+1,0,none⟩,32,32,none,0,0⟩) HR1.out HY.out
  ·have hr:=HRES.out;rw[if_neg h1,if_neg h2]at hr;subst hr;have hag:Ag v none 0 0 []:=⟨.inl ⟨rfl,rfl⟩,λ_=>⟨rfl,rfl⟩,rfl,λx hx=>by cases hx⟩;have HTX:=ZQ (FD none 0 0 [] v hag (by omega));have HS0:=ZQ HR0.out.sz;have e1:(x.k==1)=false:=(by simp[h1]);have e2:(x.k==2)=false:=(by simp[h2]);clear hag;go_wp2_with fail;refine HTX.out.mono ?_;rintro e w1⟨rfl,hrow,hb1⟩;have R1:=HR0.out.go hb1;have x0:=R1.x0;have x1:=R1.x1;have x2:=R1.x2;have xf:=R1.xf;have HR1:=ZQ R1;have HY:=ZQ (GC (P:=λb=>w.heap.size+2<=b) (n:=0) hrow rfl (λx hx=>by cases hx) (by omega) (by have:=HS0.out;omega));clear hrow hb1 R1;go_wp2_with fail;have hr:=put3 HR1.out.row (.bool false) (.slice (some ⟨v.heap.size+1,0,none⟩) 0 0) (.slice none 0 0);refine bodyPost_ret (results_cell_row results117 _ _ (w.heap.size+1) 109 _ (0,0) _ rfl hr underlying109 rfl (by kernel_rfl)) rfl ?_;exact Fd (y:=⟨false,some ⟨v.heap.size+1,0,none⟩,0,0,none,0,0⟩) HR1.out HY.out
end Go.Proofs.YtefhepcplempkaaGreat
namespace Go.Proofs.YtefhepcplempkaaGreat
open Di (dref)
variable {ds : List Int}
theorem I4(h:ds.length=32):(B8 z32).size=(B8 ds).size:=by rw[B8_size,B8_size,h];rfl
theorem Gh(h:ds.length=32):(prog.info? 35).map (·.size)=some (B8 ds).size:=by rw[Va,B8_size,h]
theorem B8_one(bs:List Int):(B8 bs).all (·.oneCell')=true:=Al (B8_one2 bs)
theorem YP:encP t0=([128],0):=by decide+kernel
theorem LR(w:World):Calls prog 22 #[] w λe w'=>e= .returned (.agg (B8 (dref [128])))/\Below w.heap.size w w':=by
 have HOF:=ZQ (λ(v:World)=>LQ (some ⟨v.heap.size,0,none⟩) 1 1 [128] (v.alloc (.cells #[.int .u8 128] 5)) (Ni.row_ag (show Ni.Row v.heap.size (v.alloc (.cells #[.int .u8 128] 5)) [128]from Aj _ _) rfl (λx hx=>by simp at hx;omega) (show(1:Nat)<=9223372036854775807 by decide)) (by omega));have HDL:=ZQ (dref_len [128]);obtain⟨ds,hds⟩:∃ds,dref [128]=ds:=⟨_,rfl⟩;rw[hds]at HOF HDL⊢;clear hds;go_enter func22,ntmps22;go_upto_region 1 with fail;refine gen_w (p:=λv=>Code.wp _ _ _ _ v) (q:=λv=>v.heap[w.heap.size]?=some (.cells (B8 z32) 35)/\Below w.heap.size w v) ⟨Aj _ _,below_new _ _⟩ ?_;rintro v⟨hrow,hb⟩;have HROW:=ZQ hrow;have HB:=ZQ hb;clear hrow hb;go_wp2_with fail;refine(HOF.out v).mono ?_;rintro e w1⟨rfl,hb1⟩;have HR1:=ZQ (Below.row (below_go (below_new v _) hb1) HROW.out);have HB1:=ZQ (below_go HB.out (below_go (below_new v _) hb1));clear hb1;go_wp2_with (first|refine A7 rfl 35 _ _ rfl _ (B8 ds) rfl rfl 35 _ HR1.out (Gh HDL.out) (I4 HDL.out) (B8_one _) ?_);refine Aq (Bg results22 _ _ w.heap.size 35 (B8 ds) (0,0) _ rfl (AE _ _ _ _ _ _ HR1.out) underlying35 rfl (Gh HDL.out)) rfl ?_;exact⟨rfl,Below.setRow HB1.out (Aa _) _⟩
theorem Mz(w:World):Calls prog 38 #[] w λe w'=>e= .returned (.agg (B8 (dref [128])))/\Below w.heap.size w w':=by
 have HDL:=ZQ (dref_len [128]);have HOF:=ZQ (λ(v:World)(a:Option Addr)(c:Nat)(h:Ag v a 1 c [128])=>Lg a 1 c [128] v h (by omega));obtain⟨ds,hds⟩:∃ds,dref [128]=ds:=⟨_,rfl⟩;rw[hds]at HOF HDL⊢;clear hds;have HTX:=ZQ (λv=>FD none 0 0 [] v ⟨.inl ⟨rfl,rfl⟩,λ_=>⟨rfl,rfl⟩,rfl,λx hx=>by cases hx⟩ (by omega));go_enter func38,ntmps38;go_upto_region 1 with fail;refine gen_w (p:=λv=>Code.wp _ _ _ _ v) (q:=λv=>v.heap[w.heap.size]?=some (.cells (B8 z32) 35)/\Below w.heap.size w v) ⟨Aj _ _,below_new _ _⟩ ?_;rintro v⟨hrow,hb⟩;have HROW:=ZQ hrow;have HB:=ZQ hb;clear hrow hb;go_wp2_with fail;refine(HTX.out v).mono ?_;rintro e w1⟨rfl,hr1,hb1⟩;have hlies:=Dj _ _ (GC (P:=λ_=>True) (n:=0) hr1 rfl (λx hx=>by cases hx) (by omega) trivial);have hen:=IT (.mk false [] []) ⟨false,some ⟨v.heap.size+1,0,none⟩,0,0,none,0,0⟩ w1 hlies;rw[show encP (.mk false [] [])=([128],0)from YP]at hen;have HEN:=ZQ hen;have HB1:=ZQ (below_go HB.out hb1);have HR1:=ZQ (Below.row hb1 HROW.out);clear hr1 hb1 hlies hen HROW HB;go_wp2_with fail;refine HEN.out.mono ?_;rintro e w2⟨⟨a,m,c,rfl,hag,-⟩,hb2⟩;have hm:m=1:=hag.l.symm;subst hm;have HO2:=ZQ (HOF.out w2 a c hag);have HB2:=ZQ (below_go HB1.out hb2);have HR2:=ZQ (Below.row hb2 HR1.out);clear hag hb2;go_wp2_with fail;refine HO2.out.mono ?_;rintro e w3⟨rfl,hb3⟩;have HR3:=ZQ (Below.row hb3 HR2.out);have HB3:=ZQ (below_go HB2.out hb3);clear hb3;go_wp2_with (first|refine A7 rfl 35 _ _ rfl _ (B8 ds) rfl rfl 35 _ HR3.out (Gh HDL.out) (I4 HDL.out) (B8_one _) ?_);refine Aq (Bg results38 _ _ w.heap.size 35 (B8 ds) (0,0) _ rfl (AE _ _ _ _ _ _ HR3.out) underlying35 rfl (Gh HDL.out)) rfl ?_;exact⟨rfl,Below.setRow HB3.out (Aa _) _⟩
end Go.Proofs.YtefhepcplempkaaGreat
namespace Go.Proofs.YtefhepcplempkaaGreat
open Tr
open Di (dref)
variable {K : Nat → Prop} {w : World} {g : Nat}
theorem I5{fn:Func}{p:Tmp}{f:Nat->Value}(h:fn.results=#[.cell p 35])(w:World)(g:Nat)(ds:List Int)(hl:ds.length=32)(hp:f p= .pointer (some ⟨g,0,none⟩))(hg:Rw g w (B8 ds) 35):(resF f fn.results).run prog w= .ok (.agg (B8 ds)) w:=by
 have:=C9 (P:=prog) w g 35 35 _ _ _ hg underlying35 rfl (Gh hl);unfold resF;rw[h];simp[hp,this,asAddr]
theorem YQ{ρ:Operand->Value}{w:World}{x y:Operand}{o:Oper}{ds:List Int}(ho:o.op= .binOp .eql 35 x y 35)(hx:ρ x= .agg (B8 ds))(hy:ρ y= .agg (B8 ds))(hl:ds.length=32):(execOp ρ o).run prog w= .ok (.value (.bool true)) w:=by
 have e:=ZB ds ds hl hl w;simp at e;unfold execOp;rw[ho];simp only[hx,hy];go_simp
theorem Lh{w1 w2:World}{g:Nat}{x:Int}(hx:0<=x/\x<256)(hn:New w1 w2 g #[.int .u8 x] 5){K:Nat->Prop}(hK:∀b,w1.heap.size<=b->K b):∃w3,(∀(ρ:Operand->Value)(o:Oper)(y:Operand),o.op= .convert 23 23 y->ρ y= .slice (some ⟨g,0,none⟩) 1 1->(execOp ρ o).run prog w2= .ok (.value (.slice (some ⟨g,0,none⟩) 1 1)) w3)/\Below w1.heap.size w1 w3/\Sk K w3 (some ⟨g,0,none⟩) 1 1 [x]:=by
 obtain⟨rfl,rfl⟩:=hn;refine⟨w1.alloc (.cells #[.int .u8 x] 5 (1,2)),?_,(Ak _ _).alloc (Aa _) _,?_⟩
 ·intro ρ o y ho hy;have:=Lib.run_convert_bytes_const (P:=prog) w1 23 5 #[.int .u8 x] 1 1 underlying23 underlying5;unfold execOp;simp only[ho,hy,B9,this,Ba,BA];rfl
 ·refine⟨⟨.inr ⟨w1.heap.size,0,rfl,rfl,by omega,by omega,by unfold maxLen;omega,λj hj=>?_⟩,(λe=>by cases e),rfl,λy hy=>by rw[DK.1 hy];exact hx⟩,λy hy _=>?_⟩
  ·have:j=0:=(by simpa using hj);subst this;rw[Ad _ _ _ _ _ _ (Aj w1 _)];rfl
  ·cases hy;exact hK _ (Aa _)
theorem Tri.lt{t:Tr}(h:Tri K w g t):g<w.heap.size:=by
 obtain⟨⟨v,h1,_⟩,_⟩:=h;exact lt_of_get h1
def putT(t:Tr)(k x:List Int):Tr:=if k.length<=32/\0<x.length/\x.length<=256 then put t (Ni.nib k) x else t
def putE(k x:List Int):Int:=if k.length<=32 then(if 0<x.length/\x.length<=256 then 0 else 71)else 70
def delT(t:Tr)(k:List Int):Tr:=if k.length<=32/\Tr.get t (Ni.nib k)≠[]then del t (Ni.nib k)else t
theorem OZ{K0:Nat->Prop}{t:Tr}{a:Option Addr}{n c:Nat}{k:List Int}(h:Tri K w g t){K1:Nat->Prop}(hk:Sk K1 w a n c k){ax:Option Addr}{nx cx:Nat}{x:List Int}(hx:Sk K0 w ax nx cx x)(hK:∀b,w.heap.size<=b->K b):
 Calls prog 24 #[.pointer (some ⟨g,0,none⟩), .slice a n c, .slice ax nx cx] w λe w'=>∃u,e= .returned u/\u= .int .i64 (putE k x)/\Tri K w' g (putT t k x)/\Touch g w w':=by
 have lk:=hk.len;have lx:=hx.len;unfold putE putT;rw[lk,lx];by_cases hn:n<=32
 ·by_cases h0:0<nx
  ·by_cases h2:nx<=256
   ·rw[Ai hn,Ai ⟨h0,h2⟩,Ai ⟨hn,h0,h2⟩];obtain⟨⟨v,h1,h2'⟩,h3⟩:=h;exact WQ h1 h2' h3 hk hn hx h2 h0 hK
   ·rw[Ai hn,Ae (λq=>h2 q.2),Ae (λq=>h2 q.2.2)];exact(WT hk hx hn (by omega)).mono (λe w'⟨u,e1,e2,e3⟩=>⟨u,e1,e2,h.go e3,Touch.of_below e3⟩)
  ·rw[Ai hn,Ae (λq=>h0 q.1),Ae (λq=>h0 q.2.1)];exact(WR hk hx hn (by omega)).mono (λe w'⟨u,e1,e2,e3⟩=>⟨u,e1,e2,h.go e3,Touch.of_below e3⟩)
 ·rw[Ae hn,Ae (λq=>hn q.1)];exact(Y8 hk hx (by omega)).mono (λe w'⟨u,e1,e2,e3⟩=>⟨u,e1,e2,h.go e3,Touch.of_below e3⟩)
theorem Xr(hr:Rw g w #[.nilIface] 76):
 Calls prog 14 #[.pointer (some ⟨g,0,none⟩)] w λe w'=>∃u,e= .returned u/\(λu w'=>u= .agg (B8 (dref [128]))/\Bl w w') u w':=by
 have hB:=Bl.refl w;have hdl:=dref_len [128];obtain⟨ds,hds⟩:∃ds,dref [128]=ds:=⟨_,rfl⟩;rw[hds]at hdl⊢;refine EO func14 16<|Hn 2 (B8 z32) 35 ?_;intro w1 g2 hn3 hr4;have hgd:=hn3.hg;replace hr:=hr.go hn3.below;refine Hl 8 hr 0 74 (.nilIface)<|Hc 6 (R:=λu w'=>u= .agg (B8 ds)/\Bl (w1) w') ((Mz (w1)).mono (λe w' h=>⟨_,by rw[h.1,hds],rfl,h.2⟩)) ?_;rintro _ u5⟨rfl,hb6⟩;replace hr4:=hr4.go hb6;refine Hy 0 (og f14 2 1) g2 (B8 ds) (λ_=>BP 35 _ _ _ _ _ _ rfl (by kernel_rfl) (by kernel_rfl) hr4 (Gh hdl) (I4 hdl) (B8_one _)) ?_;intro uE hpE;replace hB:=(hB.go hn3.below).go hb6;replace hB:Bl w uE:=hpE.below hB (by omega) hB.size;have hrE:Rw g2 uE (B8 ds) 35:=hpE.row hr4;exact OB 4 (.agg (B8 ds)) (λ_=>I5 results14 _ g2 ds hdl (by kernel_rfl) hrE) ⟨_,rfl,rfl,hB⟩
end Go.Proofs.YtefhepcplempkaaGreat
namespace Go.Proofs.YtefhepcplempkaaGreat.Ni
theorem right_any(a:Option Addr)(n c:Nat)(b:List Int)(w:World)(h:Ag w a n c b)(hn:n<=140737488355328):
 Calls prog 109 #[.slice a n c] w λe w'=>e= .returned (.bool (rightP b))/\w'=w:=by
 have HL:=ZQ h.l;have HC:Hid (0<n->∃g off,a=some ⟨g,off,none⟩/\n<=c/\c<=maxLen/\∀j,j<n->w.cell? ⟨g,off+j,none⟩=some (.int .u8 (b.getD j 0))):=ZQ (ag_head h);have HB:=ZQ h.b;clear h;obtain⟨res,hres⟩:∃r,rightP b=r:=⟨_,rfl⟩;rw[hres];have HRES:=ZQ hres;clear hres;go_enter func109,ntmps109;go_wp2_with fail
 go_loopw [7] (λi v=>∃j:Nat,j<=n/\i= .int .i64 j/\(∀i,i<j->b.getD i 0<=15)/\v=w) (λi _=>n-(intOf i).toNat)
 case atStart=>exact⟨0,by omega,rfl,λi hi=>by omega,rfl⟩
 case round=>
  obtain⟨j,hj,rfl,hle,rfl⟩:=hrel;have HLE:=ZQ hle;clear hle;by_cases hlt:j<n
  ·obtain⟨g,off,rfl,hnc,hcm,hcs⟩:=HC.out (by omega);unfold maxLen at hcm;have hcell:=hcs j hlt;have hx:=HB.out _ (getD_mem (show j<b.length by have:=HL.out;omega));have HX:Hid (b.getD j 0>15->rightP b=false):=ZQ (λh=>O7 (by have:=HL.out;omega) h)
   have HY:Hid (b.getD j 0<=15->∀i,i<j+1->b.getD i 0<=15):=ZQ (λh i hi=>by
    by_cases e:i=j
    ·rw[e];exact h
    ·exact HLE.out i (by omega))
   generalize b.getD j 0=x at hcell hx HX HY;obtain⟨hx0,hx1⟩:=hx;have hji:(j:Int)<n:=(by omega);clear hcs;by_cases h15:x>15
   ·have e:res=false:=HRES.out.symm.trans (HX.out h15);subst e;go_wp2_with fail;go_ret;exact⟨rfl,rfl⟩
   ·have h15':¬x>15:=h15;go_wp2_with fail;exact⟨⟨j+1,by omega,by simp,HY.out (by omega),trivial⟩,by simp[intOf];omega⟩
  ·have hji:¬(j:Int)<n:=(by omega);have e:res=true:=HRES.out.symm.trans (M8 λi hi=>HLE.out i (by have:=HL.out;omega));subst e;go_wp2_with fail;go_ret;exact⟨rfl,rfl⟩
end Go.Proofs.YtefhepcplempkaaGreat.Ni
namespace Go.Proofs.YtefhepcplempkaaGreat.Ni
theorem Vt(p:List Int)(m i:Nat)(hm:(kk p).length=m)(hi:i<m):((kk p).take i++List.replicate (m-i) (0:Int)).set i ((kk p).getD i 0)=(kk p).take (i+1)++List.replicate (m-(i+1)) (0:Int):=by
 rw[take_snoc (by omega),A9];have e:((kk p).take i).length=i:=by rw[Am];omega
 rw[DM _ _ (by omega),e,Cc,show m-i=(m-(i+1))+1 from by omega,List.replicate_succ];rfl
theorem Xs(a:Option Addr)(n c:Nat)(p:List Int)(w:World)(h:Ag w a n c p)(hn:n<=140737488355328):
 Calls prog 78 #[.slice a n c] w λe w'=>(∃a' m,e= .returned (.tuple #[.slice a' m m, .bool (keyP p).2])/\Ag w' a' m m (keyP p).1)/\Below w.heap.size w w':=by
 have hl:=h.l;by_cases he:n%2=0
 case neg=>
  rw[GM (λhh=>he (by rw[<-hl];exact hh.2))];simp only;have hei:(n:Int)%2=1:=by omega
  clear h hl he;go_enter func78,ntmps78;go_wp2_with fail;go_ret2;exact⟨⟨none,0,rfl,ag_nil _⟩,Ak _ _⟩
 have hei:(n:Int)%2=0:=by omega
 have hr:=right_any a n c p w h hn;by_cases hrt:rightP p=true
 case neg=>
  rw[GM (λhh=>hrt hh.1)];simp only;rw[show rightP p=false from by simpa using hrt]at hr;clear h hl he hrt;go_enter func78,ntmps78;go_wp2_with fail;refine hr.mono ?_;rintro e w1⟨rfl,rfl⟩;clear hr;go_wp2_with fail;go_ret2;exact⟨⟨none,0,rfl,ag_nil _⟩,Ak _ _⟩
 rw[Hk hrt (by omega)];simp only;rw[hrt]at hr;obtain⟨m,hm⟩:∃m,n/2=m:=⟨_,rfl⟩;have hmn:n=2*m:=by omega
 subst hmn;clear hm he hei;have HKL:Hid ((kk p).length=m):=ZQ (by rw[Lo];omega);have HKB:=ZQ (N5 p h.b hrt);have HL:=ZQ hl;have HB:=ZQ h.b;have HRT:=ZQ hrt;have HC:=ZQ (λh0=>ag_head h h0);have hmk:=run_make_row' (P:=prog) 23 5 (.int .u8 0) 1 underlying23 info5b rfl .i64 .i64 m (by omega) (by omega);have hrow:Row w.heap.size (w.alloc (.cells (madeCells #[.int .u8 0] m) 5)) (List.replicate m 0):=by
  unfold Row;rw[Aj,made_bytes]
 have hbw:Below w.heap.size w (w.alloc (.cells (madeCells #[.int .u8 0] m) 5)):=(Ak _ _).alloc (Aa _) _;have HR:=ZQ hrow;have HBW:=ZQ hbw;have hm2:(2*m:Nat)%2=0:=by omega
 have hm3:((2*m:Nat):Int)%2=0:=by omega
 have hm4:((2*m:Nat):Int)/2=m:=by omega
 clear hrow hbw h hl hrt;go_enter func78,ntmps78;go_wp2_with fail;refine hr.mono ?_;rintro e w1⟨rfl,rfl⟩;clear hr;go_wp2_with fail
 go_loopw [21] (λi v=>∃k:Nat,k<=m/\i= .int .i64 k/\Row w1.heap.size v ((kk p).take k++List.replicate (m-k) 0)/\Below w1.heap.size w1 v) (λi _=>m-(intOf i).toNat)
 case atStart=>exact⟨0,by omega,rfl,by rw[BL,AL,Nat.sub_zero];exact HR.out,HBW.out⟩
 case round=>
  clear HR HBW;obtain⟨k,hk,rfl,hrow,hb⟩:=hrel;by_cases hlt:k<m
  ·have hki:(k:Int)<m:=(by omega);have hlen:((kk p).take k++List.replicate (m-k) (0:Int)).length=m:=(by rw[Ab,Bo,Am,HKL.out];omega);have hcell:=hrow.cell (i:=k) (by omega);have hfz:=hrow.frozen k;have hset:=hrow.set k ((kk p).getD k 0);rw[Vt p m k HKL.out hlt]at hset;have hget:=N3 p k (by have:=HL.out;omega);obtain⟨g,off,rfl,hnc,hcm,hcs⟩:=HC.out (by omega);unfold maxLen at hcm;have hc1:=(hb.cell (p:=⟨g,off+(2*k),none⟩) (Af (hcs (2*k) (by omega)))).trans (hcs (2*k) (by omega));have hc2:=(hb.cell (p:=⟨g,off+(2*k+1),none⟩) (Af (hcs (2*k+1) (by omega)))).trans (hcs (2*k+1) (by omega));have hx0:=(HB.out _ (getD_mem (l:=p) (i:=2*k) (by have:=HL.out;omega))).1;have hy0:=(HB.out _ (getD_mem (l:=p) (i:=2*k+1) (by have:=HL.out;omega))).1;have hx1:=Gz HRT.out (i:=2*k) (by have:=HL.out;omega);have hy1:=Gz HRT.out (i:=2*k+1) (by have:=HL.out;omega);generalize ((kk p).take k++List.replicate (m-k) (0:Int)).getD k 0=z at hcell;generalize p.getD (2*k) 0=x at*;generalize p.getD (2*k+1) 0=y at*;rw[hget]at hset;have hor:=Zt hx0 hx1 hy0 hy1;have hkm:2*k+1<2*m:=(by omega);have hk1:(2*(k:Int))<((2*m:Nat):Int):=(by omega);have hk2:(2*(k:Int)+1)<((2*m:Nat):Int):=(by omega);have ht1:(2*(k:Int)).toNat=2*k:=(by omega);have ht2:(2*(k:Int)+1).toNat=2*k+1:=(by omega);have HS:=ZQ hset;have HBB:=ZQ hb;clear hset hb hrow hlen hget hcs;go_wp2_with fail
   go_region
   all_goals
    go_wp2_with fail;exact⟨⟨k+1,by omega,by simp,HS.out,(HBB.out.setCell (Aa _) _).drew⟩,by simp[intOf];omega⟩
  ·have hki:¬(k:Int)<m:=(by omega);have e:k=m:=(by omega);subst e;rw[Cc,List.replicate_zero,A4,A8 (by rw[HKL.out];exact Aa _)]at hrow;have HS:=ZQ hrow;have HBB:=ZQ hb;clear hrow hb;go_wp2_with fail;go_ret2;exact⟨⟨_,_,rfl,row_ag HS.out HKL.out HKB.out (by omega)⟩,HBB.out⟩
end Go.Proofs.YtefhepcplempkaaGreat.Ni
namespace Go.Proofs.YtefhepcplempkaaGreat.Ni
theorem key_new(a:Option Addr)(n c:Nat)(p:List Int)(w:World)(h:Ag w a n c p)(hn:n<=140737488355328):
 Calls prog 78 #[.slice a n c] w λe w'=>(∃a' m,e= .returned (.tuple #[.slice a' m m, .bool (keyP p).2])/\Ag w' a' m m (keyP p).1/\∀x,a'=some x->x.block=w.heap.size/\Row w.heap.size w' (keyP p).1)/\Below w.heap.size w w':=by
 have hl:=h.l;by_cases he:n%2=0
 case neg=>
  rw[GM (λhh=>he (by rw[<-hl];exact hh.2))];simp only;have hei:(n:Int)%2=1:=by omega
  clear h hl he;go_enter func78,ntmps78;go_wp2_with fail;go_ret2;exact⟨⟨none,0,rfl,ag_nil _,λx hx=>by cases hx⟩,Ak _ _⟩
 have hei:(n:Int)%2=0:=by omega
 have hr:=right_any a n c p w h hn;by_cases hrt:rightP p=true
 case neg=>
  rw[GM (λhh=>hrt hh.1)];simp only;rw[show rightP p=false from by simpa using hrt]at hr;clear h hl he hrt;go_enter func78,ntmps78;go_wp2_with fail;refine hr.mono ?_;rintro e w1⟨rfl,rfl⟩;clear hr;go_wp2_with fail;go_ret2;exact⟨⟨none,0,rfl,ag_nil _,λx hx=>by cases hx⟩,Ak _ _⟩
 rw[Hk hrt (by omega)];simp only;rw[hrt]at hr;obtain⟨m,hm⟩:∃m,n/2=m:=⟨_,rfl⟩;have hmn:n=2*m:=by omega
 subst hmn;clear hm he hei;have HKL:Hid ((kk p).length=m):=ZQ (by rw[Lo];omega);have HKB:=ZQ (N5 p h.b hrt);have HL:=ZQ hl;have HB:=ZQ h.b;have HRT:=ZQ hrt;have HC:=ZQ (λh0=>ag_head h h0);have hmk:=run_make_row' (P:=prog) 23 5 (.int .u8 0) 1 underlying23 info5b rfl .i64 .i64 m (by omega) (by omega);have hrow:Row w.heap.size (w.alloc (.cells (madeCells #[.int .u8 0] m) 5)) (List.replicate m 0):=by
  unfold Row;rw[Aj,made_bytes]
 have hbw:Below w.heap.size w (w.alloc (.cells (madeCells #[.int .u8 0] m) 5)):=(Ak _ _).alloc (Aa _) _;have HR:=ZQ hrow;have HBW:=ZQ hbw;have hm2:(2*m:Nat)%2=0:=by omega
 have hm3:((2*m:Nat):Int)%2=0:=by omega
 have hm4:((2*m:Nat):Int)/2=m:=by omega
 clear hrow hbw h hl hrt;go_enter func78,ntmps78;go_wp2_with fail;refine hr.mono ?_;rintro e w1⟨rfl,rfl⟩;clear hr;go_wp2_with fail
 go_loopw [21] (λi v=>∃k:Nat,k<=m/\i= .int .i64 k/\Row w1.heap.size v ((kk p).take k++List.replicate (m-k) 0)/\Below w1.heap.size w1 v) (λi _=>m-(intOf i).toNat)
 case atStart=>exact⟨0,by omega,rfl,by rw[BL,AL,Nat.sub_zero];exact HR.out,HBW.out⟩
 case round=>
  clear HR HBW;obtain⟨k,hk,rfl,hrow,hb⟩:=hrel;by_cases hlt:k<m
  ·have hki:(k:Int)<m:=(by omega);have hlen:((kk p).take k++List.replicate (m-k) (0:Int)).length=m:=(by rw[Ab,Bo,Am,HKL.out];omega);have hcell:=hrow.cell (i:=k) (by omega);have hfz:=hrow.frozen k;have hset:=hrow.set k ((kk p).getD k 0);rw[Vt p m k HKL.out hlt]at hset;have hget:=N3 p k (by have:=HL.out;omega);obtain⟨g,off,rfl,hnc,hcm,hcs⟩:=HC.out (by omega);unfold maxLen at hcm;have hc1:=(hb.cell (p:=⟨g,off+(2*k),none⟩) (Af (hcs (2*k) (by omega)))).trans (hcs (2*k) (by omega));have hc2:=(hb.cell (p:=⟨g,off+(2*k+1),none⟩) (Af (hcs (2*k+1) (by omega)))).trans (hcs (2*k+1) (by omega));have hx0:=(HB.out _ (getD_mem (l:=p) (i:=2*k) (by have:=HL.out;omega))).1;have hy0:=(HB.out _ (getD_mem (l:=p) (i:=2*k+1) (by have:=HL.out;omega))).1;have hx1:=Gz HRT.out (i:=2*k) (by have:=HL.out;omega);have hy1:=Gz HRT.out (i:=2*k+1) (by have:=HL.out;omega);generalize ((kk p).take k++List.replicate (m-k) (0:Int)).getD k 0=z at hcell;generalize p.getD (2*k) 0=x at*;generalize p.getD (2*k+1) 0=y at*;rw[hget]at hset;have hor:=Zt hx0 hx1 hy0 hy1;have hkm:2*k+1<2*m:=(by omega);have hk1:(2*(k:Int))<((2*m:Nat):Int):=(by omega);have hk2:(2*(k:Int)+1)<((2*m:Nat):Int):=(by omega);have ht1:(2*(k:Int)).toNat=2*k:=(by omega);have ht2:(2*(k:Int)+1).toNat=2*k+1:=(by omega);have HS:=ZQ hset;have HBB:=ZQ hb;clear hset hb hrow hlen hget hcs;go_wp2_with fail
   go_region
   all_goals
    go_wp2_with fail;exact⟨⟨k+1,by omega,by simp,HS.out,(HBB.out.setCell (Aa _) _).drew⟩,by simp[intOf];omega⟩
  ·have hki:¬(k:Int)<m:=(by omega);have e:k=m:=(by omega);subst e;rw[Cc,List.replicate_zero,A4,A8 (by rw[HKL.out];exact Aa _)]at hrow;have HS:=ZQ hrow;have HBB:=ZQ hb;clear hrow hb;go_wp2_with fail;go_ret2;exact⟨⟨_,_,rfl,row_ag HS.out HKL.out HKB.out (by omega),λx hx=>by cases hx;exact⟨rfl,HS.out⟩⟩,HBB.out⟩
end Go.Proofs.YtefhepcplempkaaGreat.Ni
namespace Go.Proofs.YtefhepcplempkaaGreat
open Tr
variable {w A B : World} {U K : Nat → Prop} {M n c : Nat} {a : Option Addr}
theorem IH{a:Addr}{v:Value}(h:w.cell? a=some v):∃cs T fr,w.heap[a.block]?=some (.cells cs T fr)/\cs[a.off]?=some v:=by
 unfold World.cell? at h;split at h
 ·rename_i cs T fr e;split at h
  ·cases h
  ·exact⟨cs,T,fr,e,h⟩
 ·cases h
def Pr(cs:Array Value):Prop:=∃(j:Nat)(v:Value),cs[j]?=some v/\∀a n c,v≠ .slice a n c
structure KpU(U:Nat->Prop)(M:Nat)(A B:World):Prop where
 size:A.heap.size<=B.heap.size
 keep:∀k cs T fr,k<M->¬U k->Pr cs->A.heap[k]?=some (.cells cs T fr)->B.heap[k]?=some (.cells cs T fr)
theorem KpU.trans{M':Nat}{C:World}(h:KpU U M A B)(g:KpU U M' B C)(hM:M<=M'):KpU U M A C:=⟨Ar h.size g.size,λk cs T fr hk hU hP hh=>g.keep k cs T fr (B7 hk hM) hU hP (h.keep k cs T fr hk hU hP hh)⟩
theorem KpU.of_below(M:Nat)(h:Below A.heap.size A B):KpU U M A B:=⟨h.size,λk cs T fr _ _ _ hh=>(h.block k (lt_of_get hh)).trans hh⟩
theorem Rw.kp{g:Nat}{cells:Array Value}{T:TypeId}(h:Rw g A cells T)(hk:KpU U M A B)(hg:g<M)(hU:¬U g)(hP:Pr cells):Rw g B cells T:=hk.keep g cells T (0,0) hg hU hP h
theorem Sk.kp{bs:List Int}(h:Sk K A a n c bs)(hk:KpU U M A B)(hM:A.heap.size<=M)(hK:∀b,K b->¬U b):Sk K B a n c bs:=by
 refine⟨⟨?_,h.ag.nil,h.ag.l,h.ag.b⟩,h.k⟩;rcases h.ag.i with h1|⟨gb,off,h1,h2,h3,h4,h5,h7⟩
 ·exact .inl h1
 ·refine .inr ⟨gb,off,h1,h2,h3,h4,h5,λj hj=>?_⟩;obtain⟨cs,T,fr,e,e'⟩:=IH (h7 j hj);have:=hk.keep gb cs T fr (B7 (lt_of_get e) hM) (hK _ (h.k _ h1 h3)) ⟨_,_,e',λ_ _ _=>by simp⟩ e;rw[<-h7 j hj];exact Ay (this.trans e.symm)
theorem TA.kp(hk:KpU U M A B)(hM:A.heap.size<=M)(hK:∀b,K b->¬U b):∀{t:Tr}{v:Value},TA K A t v->TA K B t v:=by
 intro t
 induction t with
 |no=>intro v h;exact h
 |leaf p x=>rintro v⟨a,n,c,a',n',c',h1,h2,h3,h4⟩;exact⟨a,n,c,a',n',c',h1,h2.kp hk hM hK,h3.kp hk hM hK,h4⟩
 |ext p t ih=>rintro v⟨a,n,c,u,h1,h2,h3⟩;exact⟨a,n,c,u,h1,h2.kp hk hM hK,ih h3⟩
 |br k x ih=>rintro v⟨vs,a,n,c,h1,h2,h3,h4⟩;exact⟨vs,a,n,c,h1,λi hi=>ih i (h2 i hi),h3.kp hk hM hK,h4⟩
abbrev PList:=List (List Int×List Int)
structure Vis(l B0:Nat)(Z:PList)(U:Nat->Prop)(J:PList->World->Prop)(Jx:World->Prop):Prop where
 go:∀{pre:PList}{W W':World},J pre W->Below W.heap.size W W'->J pre W'
 gx:∀{W W':World},Jx W->Below W.heap.size W W'->Jx W'
 lo:∀b,U b->b<B0
 y:∀{pre:PList}{W:World}{M:Nat}{a a':Option Addr}{n c n' c':Nat}{k x:List Int},J pre W->(pre++[(k,x)])<+:Z->B0<=M->M<=W.heap.size->Sk (λb=>M<=b) W a n c k->Sk (λb=>M<=b) W a' n' c' x->
  YieldAt Fence.wide 0 prog l #[.slice a n c, .slice a' n' c'] W λe W'=>(e= .returned (.bool true)/\J (pre++[(k,x)]) W'/\KpU U M W W')∨(e= .returned (.bool false)/\Jx W')
def RE(U:Nat->Prop)(J:PList->World->Prop)(Jx:World->Prop)(w:World)(L:PList):Value->World->Prop:=λu w'=>(u= .bool true/\J L w'/\KpU U w.heap.size w w')∨(u= .bool false/\Jx w')
def entsF(p:List Int):Tr->PList
 |no=>[]
 |leaf q x=>[((Ni.keyP (p++q)).1,x)]
 |ext q c=>entsF (p++q) c
 |br k x=>(if x=[]then[]else[((Ni.keyP p).1,x)])++(List.range 16).flatMap λi=>if(k i).isNo then[]else entsF (p++[(i:Int)]) (k i)
def fvE(gY:Nat):Value:= .func (.func 77) #[] #[.pointer (some ⟨gY,0,none⟩)]
theorem YR{l B0:Nat}{Z:PList}{J:PList->World->Prop}{Jx:World->Prop}(V:Vis l B0 Z U J Jx){K':Nat->Prop}{a':Option Addr}{n' c':Nat}{p x:List Int}(hp:Sk K w a n c p)(hx:Sk K' w a' n' c' x)(hn:n<=1000)(hn':n'<=1000){gY:Nat}(hY:Rw gY w #[.func (.yield l) #[] #[]] 71){pre:PList}(hJ:J pre w)(hN:(pre++[((Ni.keyP p).1,x)])<+:Z)(hB0:B0<=w.heap.size):
 Calls prog 77 #[.slice a n c, .slice a' n' c', .pointer (some ⟨gY,0,none⟩)] w λe w'=>∃u,e= .returned u/\RE U J Jx w (pre++[((Ni.keyP p).1,x)]) u w':=by
 have hB:=Bl.refl w;refine CV func77 rfl 18 rfl ?_;show CW _ _ _ _ _ _ _ [(0, .slice a n c),(1, .slice a' n' c'),(2, .pointer (some ⟨gY,0,none⟩))] _;refine A5<|Ao<|rp 5 (.bool false)<|AK<|Av<|A5<|Ao<|rp 9 (.slice a n c)<|BH 10 78 #[.slice a n c] (λ_=>by kernel_rfl) (λ_=>by kernel_rfl) (R:=λu w'=>(∃a2 m2,u= .tuple #[.slice a2 m2 m2, .bool (Ni.keyP p).2]/\Sk (λb=>(w).heap.size<=b) w' a2 m2 m2 (Ni.keyP p).1)/\Bl (w) w') ((Ni.key_new a n c p _ hp.ag (by omega)).mono (λe w'⟨⟨a2,m2,e1,e2,e3⟩,e4⟩=>⟨_,e1,⟨a2,m2,rfl,e2,λx hx _=>by rw[(e3 x hx).1];exact Aa _⟩,e4⟩)) ?_;rintro _ u1⟨⟨a2,m2,rfl,hk2⟩,hb1⟩;replace hB:=hB.go hb1;replace hp:=hp.go hb1;replace hx:=hx.go hb1;replace hY:=hY.go hb1;replace hJ:=V.go hJ hb1;refine rp 8 (.tuple #[.slice a2 m2 m2, .bool (Ni.keyP p).2])<|rp 11 (.slice a2 m2 m2)<|rp 12 (.bool (Ni.keyP p).2)<|rp 6 (.slice a2 m2 m2)<|rp 7 (.bool (Ni.keyP p).2)<|AK<|Av<|A5<|WF (by kernel_rfl) ?_;replace hB:=hB.drew;replace hp:=hp.drew;replace hx:=hx.drew;replace hY:=hY.drew;replace hJ:=V.go hJ (Ak _ _).drew;replace hk2:=hk2.drew;refine Ru 1 14 (.slice a2 m2 m2) rfl (by kernel_rfl) (λ_ _ _ h=>h) (λ_=>by kernel_rfl) (λ_ _=>by kernel_rfl) (λ_ _=>rfl)<|Ru 2 15 (.slice a' n' c') rfl (by kernel_rfl) (λ_ _ _ h=>h) (λ_=>by kernel_rfl) (λ_ _=>by kernel_rfl) (λ_ _=>rfl)<|Fh [0,3] (by kernel_rfl) (by simp) ?_;refine SI 0 13 (.func (.yield l) #[] #[]) rfl (λ_=>by kernel_rfl) (λ_=>AA 71 _ ⟨gY,0,none⟩ _ _ rfl (by kernel_rfl) (by rw[Ad _ _ _ _ _ _ hY];rfl) underlying71 rfl) ?_ ?_
 ·skip
  refine Fh [3] (by kernel_rfl) (by simp) ?_;refine Rv 3 16 52 #[.slice a' n' c'] rfl (λ_=>by kernel_rfl) (λ_=>by kernel_rfl) (R:=λu w'=>∃a3 n3 c3,u= .slice a3 n3 c3/\Sk (λb=>(u1.drew).heap.size<=b) w' a3 n3 c3 x/\Bl (u1.drew) w') (G1 hx (by omega)) ?_ GL;rintro _ u2⟨a3,n3,c3,rfl,hs3,hb2⟩;have hsB:=hB.size;replace hB:=hB.go hb2;replace hp:=hp.go hb2;replace hx:=hx.go hb2;replace hY:=hY.go hb2;replace hJ:=V.go hJ hb2;replace hk2:=hk2.go hb2;refine Fh [4] (by kernel_rfl) (by simp) ?_;refine O3 4 17 l #[.slice a2 m2 m2, .slice a3 n3 c3] rfl (λ_=>by kernel_rfl) (λ_=>by kernel_rfl) (V.y (M:=w.heap.size) hJ hN hB0 hB.size (hk2.mono (λb hb=>hb)) (hs3.mono (λb hb=>Ar hsB hb))) ?_ GL;rintro e w'(⟨rfl,hJ',hkp⟩|⟨rfl,hjx⟩)
  ·refine⟨_,rfl,?_⟩;refine Fh [5] (by kernel_rfl) (by simp) ?_;refine SI (w':=w') 5 5 (.bool true) rfl (λ_=>by kernel_rfl) (λ_=>by kernel_rfl) ?_ GL;refine KT (by kernel_rfl)<|Av<|D7 ?_;exact BU (.bool true) (λ_=>by kernel_rfl) ⟨_,rfl, .inl ⟨rfl,hJ',(KpU.of_below _ hB).trans hkp (Aa _)⟩⟩
  ·refine⟨_,rfl,?_⟩;refine Fh [5] (by kernel_rfl) (by simp) ?_;refine SI (w':=w') 5 5 (.bool false) rfl (λ_=>by kernel_rfl) (λ_=>by kernel_rfl) ?_ GL;refine KT (by kernel_rfl)<|Av<|D7 ?_;exact BU (.bool false) (λ_=>by kernel_rfl) ⟨_,rfl, .inr ⟨rfl,hjx⟩⟩
 refine Rv 3 16 52 #[.slice a' n' c'] rfl (λ_=>by kernel_rfl) (λ_=>by kernel_rfl) (R:=λu w'=>∃a3 n3 c3,u= .slice a3 n3 c3/\Sk (λb=>(u1.drew).heap.size<=b) w' a3 n3 c3 x/\Bl (u1.drew) w') (G1 hx (by omega)) ?_ GL;rintro _ u2⟨a3,n3,c3,rfl,hs3,hb2⟩;have hsB:=hB.size;replace hB:=hB.go hb2;replace hp:=hp.go hb2;replace hx:=hx.go hb2;replace hY:=hY.go hb2;replace hJ:=V.go hJ hb2;replace hk2:=hk2.go hb2;refine Fh [0] (by kernel_rfl) (by simp) ?_;refine SI 0 13 (.func (.yield l) #[] #[]) rfl (λ_=>by kernel_rfl) (λ_=>AA 71 _ ⟨gY,0,none⟩ _ _ rfl (by kernel_rfl) (by rw[Ad _ _ _ _ _ _ hY];rfl) underlying71 rfl) ?_ GL;refine Fh [4] (by kernel_rfl) (by simp) ?_;refine O3 4 17 l #[.slice a2 m2 m2, .slice a3 n3 c3] rfl (λ_=>by kernel_rfl) (λ_=>by kernel_rfl) (V.y (M:=w.heap.size) hJ hN hB0 hB.size (hk2.mono (λb hb=>hb)) (hs3.mono (λb hb=>Ar hsB hb))) ?_ GL;rintro e w'(⟨rfl,hJ',hkp⟩|⟨rfl,hjx⟩)
 ·refine⟨_,rfl,?_⟩;refine Fh [5] (by kernel_rfl) (by simp) ?_;refine SI (w':=w') 5 5 (.bool true) rfl (λ_=>by kernel_rfl) (λ_=>by kernel_rfl) ?_ GL;refine KT (by kernel_rfl)<|Av<|D7 ?_;exact BU (.bool true) (λ_=>by kernel_rfl) ⟨_,rfl, .inl ⟨rfl,hJ',(KpU.of_below _ hB).trans hkp (Aa _)⟩⟩
 ·refine⟨_,rfl,?_⟩;refine Fh [5] (by kernel_rfl) (by simp) ?_;refine SI (w':=w') 5 5 (.bool false) rfl (λ_=>by kernel_rfl) (λ_=>by kernel_rfl) ?_ GL;refine KT (by kernel_rfl)<|Av<|D7 ?_;exact BU (.bool false) (λ_=>by kernel_rfl) ⟨_,rfl, .inr ⟨rfl,hjx⟩⟩
end Go.Proofs.YtefhepcplempkaaGreat
namespace Go.Proofs.YtefhepcplempkaaGreat
open Tr
variable {U K K' : Nat → Prop} {Jx : World → Prop} {w : World} {B0 n c n' c' gY j nq cq B : Nat} {a a' aq : Option Addr} {p x q : List Int} {k : Nat → Tr} {vs : Nat → Value}
def RB(U:Nat->Prop)(J:PList->World->Prop)(Jx:World->Prop)(w:World)(L:PList):Value->World->Prop:=λu w'=>∃b,u= .bool b/\(b=true->J L w'/\KpU U w.heap.size w w')/\(b=false->Jx w')
theorem RE.rb{J:PList->World->Prop}{L:PList}{u:Value}{w':World}(h:RE U J Jx w L u w'):RB U J Jx w L u w':=by
 rcases h with⟨rfl,h1,h2⟩|⟨rfl,h⟩
 ·exact⟨true,rfl,λ_=>⟨h1,h2⟩,λe=>by cases e⟩
 ·exact⟨false,rfl,(λe=>by cases e),λ_=>h⟩
theorem JA{l:Nat}{Z:PList}{J:PList->World->Prop}(V:Vis l B0 Z U J Jx)(hp:Sk K w a n c p)(hx:Sk K' w a' n' c' x)(hn:n<=1000)(hn':n'<=1000)(hY:Rw gY w #[.func (.yield l) #[] #[]] 71){pre:PList}(hJ:J pre w)(hN:(pre++[((Ni.keyP p).1,x)])<+:Z)(hB0:B0<=w.heap.size):
 Calls prog 77 #[.slice a n c, .slice a' n' c', .pointer (some ⟨gY,0,none⟩)] w λe w'=>∃u,e= .returned u/\RB U J Jx w (pre++[((Ni.keyP p).1,x)]) u w':=
 (YR V hp hx hn hn' hY hJ hN hB0).mono (λe w'⟨u,e1,e2⟩=>⟨u,e1,e2.rb⟩)
def EC(l B0:Nat)(Z:PList)(U:Nat->Prop)(J:PList->World->Prop)(Jx:World->Prop)(t:Tr):Prop:=∀{K K':Nat->Prop}{w:World}{v:Value}{a:Option Addr}{n c B gY:Nat}{q:List Int}{pre:PList},Tr.Ok B t->n+B<=64->TA K w t v->(∀b,K b->¬U b)->Sk K' w a n c q->(∀b,K' b->¬U b)->Rw gY w #[.func (.yield l) #[] #[]] 71->¬U gY->J pre w->(pre++entsF q t)<+:Z->B0<=w.heap.size->
 MC "pergola/trie.each" v #[.slice a n c, .func (.func 77) #[] #[.pointer (some ⟨gY,0,none⟩)]] w (RB U J Jx w (pre++entsF q t))
theorem Tt(x:Value):Iv "pergola/trie.each" (.iface 131 x) 177 x:=Hh λw vs=>by kernel_rfl
theorem Tv(x:Value):Iv "pergola/trie.each" (.iface 226 x) 195 x:=Hh λw vs=>by kernel_rfl
theorem Tw(x:Value):Iv "pergola/trie.each" (.iface 221 x) 188 x:=Hh λw vs=>by kernel_rfl
theorem Si{K:Nat->Prop}{w0 w:World}{t:Tr}{v:Value}(h:TA K w0 t v)(hne:t≠no){ρ:Operand->Value}{o:Oper}(i:Nat)(ho:o.op= .nilCheck (.tmp i))(hx:ρ (.tmp i)= .func (.method "pergola/trie.each") #[v] #[]):(execOp ρ o).run prog w= .ok (.value (.func (.method "pergola/trie.each") #[v] #[])) w:=by
 unfold execOp;rw[ho];simp only[hx];cases t with
 |no=>exact absurd rfl hne
 |leaf p x=>obtain⟨_,_,_,_,_,_,rfl,_⟩:=h;kernel_rfl
 |ext p t=>obtain⟨_,_,_,_,rfl,_⟩:=h;kernel_rfl
 |br k x=>obtain⟨_,_,_,_,rfl,_⟩:=h;kernel_rfl
def flK(q:List Int)(k:Nat->Tr)(j:Nat):PList:=(List.range j).flatMap λi=>if(k i).isNo then[]else entsF (q++[(i:Int)]) (k i)
theorem Vu(h:k j=no):flK q k (j+1)=flK q k j:=by simp[flK,List.range_succ,List.flatMap_append,h,isNo]
theorem Li(h:k j≠no):flK q k (j+1)=flK q k j++entsF (q++[((j:Nat):Int)]) (k j):=by
 have:(k j).isNo=false:=by cases hk:k j<;>simp_all [isNo]
 simp[flK,List.range_succ,List.flatMap_append,this]
theorem Vv(q:List Int)(k:Nat->Tr){m:Nat}(h:j<=m):flK q k j<+:flK q k m:=by
 induction m with
 |zero=>
  obtain rfl:j=0:=by omega
  exact List.prefix_rfl
 |succ m ih=>
  by_cases e:j=m+1
  ·rw[e];exact List.prefix_rfl
  ·refine(ih (by omega)).trans ?_;simp only[flK,CR,Ca];exact List.prefix_append _ _
theorem TA.ns{t:Tr}{v:Value}(h:TA K w t v):∀a n c,v≠ .slice a n c:=by
 cases t with
 |no=>rw[show v= .nilIface from h];simp
 |leaf p x=>obtain⟨_,_,_,_,_,_,rfl,_⟩:=h;simp
 |ext p t=>obtain⟨_,_,_,_,rfl,_⟩:=h;simp
 |br k x=>obtain⟨_,_,_,_,rfl,_⟩:=h;simp
theorem TK.pr(h:TK K w k vs)(s:Value):Pr (brc vs s):=⟨0,vs 0,rfl,(h 0 (by omega)).ns⟩
theorem TK.kp{A B:World}(h:TK K A k vs)(hk:KpU U A.heap.size A B)(hK:∀b,K b->¬U b):TK K B k vs:=λi hi=>(h i hi).kp hk (Aa _) hK
theorem Tx{l:Nat}{Z:PList}{J:PList->World->Prop}(V:Vis l B0 Z U J Jx)(hp:Sk K w a n c p)(hx:Sk K w a' n' c' x)(hn2:n'<=256)(hq:Sk K' w aq nq cq q)(hY:Rw gY w #[.func (.yield l) #[] #[]] 71){pre:PList}(hJ:J pre w)(hN:(pre++[((Ni.keyP (q++p)).1,x)])<+:Z)(hB0:B0<=w.heap.size)(h64:nq+n<=64):
 Calls prog 177 #[.agg #[.slice a n c, .slice a' n' c'], .slice aq nq cq, .func (.func 77) #[] #[.pointer (some ⟨gY,0,none⟩)]] w λe w'=>∃u,e= .returned u/\RB U J Jx w (pre++entsF q (leaf p x)) u w':=by
 have hB:=Bl.refl w;have lp:=hp.len;have lq:=hq.len;refine EO func177 16<|Hn 2 (#[.slice a n c, .slice a' n' c']) 131 ?_;intro w1 g2 hn3 hr4;replace hJ:=V.go hJ hn3.below;refine Hj 4 (λ_=>True) (trivial) ?_;replace hJ:=V.go hJ (Ak _ _).drew;refine Dy [0,1,2,6] [3,7] trivial ?_;replace hr4:=hr4.drew;refine Yx 3 (og f177 1 3) (.slice a n c) (λ_=>AA 23 _ ⟨g2,0,none⟩ _ _ rfl (by kernel_rfl) (by rw[Ad _ _ _ _ _ _ hr4];rfl) underlying23 rfl) trivial ?_ ?_
 ·skip
  refine Dz [4,7] ?_;refine Qc 4 #[.slice aq nq cq, .slice a n c] 23 2 (λw' g h=>trivial) ?_ ?_
  ·skip
   intro w5 g6 hn7 hL;replace hJ:=V.go hJ hn7.below;refine Dz [5,7] ?_;replace hp:=((hp.go hn3.below).drew).go hn7.below;replace hq:=((hq.go hn3.below).drew).go hn7.below;refine Yc 5 (R:=λu w'=>∃a2 n2 c2,u= .slice a2 n2 c2/\Sk (λb=>(w5).heap.size<=b) w' a2 n2 c2 (q++p)/\Bl (w5) w') (D1 hq hp hL (by omega) (by omega)) (λu w' h=>trivial) ?_ ?_
   ·skip
    rintro _ u8⟨a3,n3,c3,rfl,hs3,hb9⟩;replace hB:=((hB.go hn3.below).drew).go hn7.below;have hsB:=hB.size;replace hJ:=V.go hJ hb9;refine Dz [7] ?_;replace hr4:=(hr4.go hn7.below).go hb9;refine Yx 7 (og f177 1 7) (.slice a' n' c') (λ_=>AA 23 _ ⟨g2,1,none⟩ _ _ rfl (by kernel_rfl) (by rw[Ad _ _ _ _ _ _ hr4];rfl) underlying23 rfl) trivial ?_ yn;refine Dz [8] ?_;have l3:=hs3.len;rw[Ab]at l3;replace hx:=(((hx.go hn3.below).drew).go hn7.below).go hb9;replace hY:=(((hY.go hn3.below).drew).go hn7.below).go hb9;replace hB:=hB.go hb9;refine Yc 8 (R:=RB U J Jx (u8) (pre++[((Ni.keyP (q++p)).1,x)])) (JA V hs3 hx (by omega) (by omega) hY hJ hN (Ar hB0 hB.size)) (λu w' h=>trivial) ?_ yn;rintro _ u8⟨b8,rfl,hR8,hX8⟩;have hBk:=hB;refine Dx [] 9 (og f177 1 9) (.bool b8) (λv hv _=>by kernel_rfl) trivial<|Do ?_;exact Hr 2 (.bool b8) ⟨_,rfl,b8,rfl,λe=>⟨(hR8 e).1,(KpU.of_below _ hBk).trans (hR8 e).2 hBk.size⟩,hX8⟩
   replace hr4:=hr4.go hn7.below;refine Yx 7 (og f177 1 7) (.slice a' n' c') (λ_=>AA 23 _ ⟨g2,1,none⟩ _ _ rfl (by kernel_rfl) (by rw[Ad _ _ _ _ _ _ hr4];rfl) underlying23 rfl) trivial ?_ yn;refine Dz [5] ?_;refine Yc 5 (R:=λu w'=>∃a2 n2 c2,u= .slice a2 n2 c2/\Sk (λb=>(w5).heap.size<=b) w' a2 n2 c2 (q++p)/\Bl (w5) w') (D1 hq hp hL (by omega) (by omega)) (λu w' h=>trivial) ?_ yn;rintro _ u10⟨a3,n3,c3,rfl,hs3,hb11⟩;replace hB:=((hB.go hn3.below).drew).go hn7.below;have hsB:=hB.size;replace hJ:=V.go hJ hb11;refine Dz [8] ?_;have l3:=hs3.len;rw[Ab]at l3;replace hx:=(((hx.go hn3.below).drew).go hn7.below).go hb11;replace hY:=(((hY.go hn3.below).drew).go hn7.below).go hb11;replace hB:=hB.go hb11;refine Yc 8 (R:=RB U J Jx (u10) (pre++[((Ni.keyP (q++p)).1,x)])) (JA V hs3 hx (by omega) (by omega) hY hJ hN (Ar hB0 hB.size)) (λu w' h=>trivial) ?_ yn;rintro _ u8⟨b8,rfl,hR8,hX8⟩;have hBk:=hB;refine Dx [] 9 (og f177 1 9) (.bool b8) (λv hv _=>by kernel_rfl) trivial<|Do ?_;exact Hr 2 (.bool b8) ⟨_,rfl,b8,rfl,λe=>⟨(hR8 e).1,(KpU.of_below _ hBk).trans (hR8 e).2 hBk.size⟩,hX8⟩
  refine Yx 7 (og f177 1 7) (.slice a' n' c') (λ_=>AA 23 _ ⟨g2,1,none⟩ _ _ rfl (by kernel_rfl) (by rw[Ad _ _ _ _ _ _ hr4];rfl) underlying23 rfl) trivial ?_ yn;refine Dz [4] ?_;refine Qc 4 #[.slice aq nq cq, .slice a n c] 23 2 (λw' g h=>trivial) ?_ yn;intro w12 g13 hn14 hL;replace hJ:=V.go hJ hn14.below;refine Dz [5] ?_;replace hp:=((hp.go hn3.below).drew).go hn14.below;replace hq:=((hq.go hn3.below).drew).go hn14.below;refine Yc 5 (R:=λu w'=>∃a2 n2 c2,u= .slice a2 n2 c2/\Sk (λb=>(w12).heap.size<=b) w' a2 n2 c2 (q++p)/\Bl (w12) w') (D1 hq hp hL (by omega) (by omega)) (λu w' h=>trivial) ?_ yn;rintro _ u15⟨a3,n3,c3,rfl,hs3,hb16⟩;replace hB:=((hB.go hn3.below).drew).go hn14.below;have hsB:=hB.size;replace hJ:=V.go hJ hb16;refine Dz [8] ?_;have l3:=hs3.len;rw[Ab]at l3;replace hx:=(((hx.go hn3.below).drew).go hn14.below).go hb16;replace hY:=(((hY.go hn3.below).drew).go hn14.below).go hb16;replace hB:=hB.go hb16;refine Yc 8 (R:=RB U J Jx (u15) (pre++[((Ni.keyP (q++p)).1,x)])) (JA V hs3 hx (by omega) (by omega) hY hJ hN (Ar hB0 hB.size)) (λu w' h=>trivial) ?_ yn;rintro _ u8⟨b8,rfl,hR8,hX8⟩;have hBk:=hB;refine Dx [] 9 (og f177 1 9) (.bool b8) (λv hv _=>by kernel_rfl) trivial<|Do ?_;exact Hr 2 (.bool b8) ⟨_,rfl,b8,rfl,λe=>⟨(hR8 e).1,(KpU.of_below _ hBk).trans (hR8 e).2 hBk.size⟩,hX8⟩
 refine Yx 7 (og f177 1 7) (.slice a' n' c') (λ_=>AA 23 _ ⟨g2,1,none⟩ _ _ rfl (by kernel_rfl) (by rw[Ad _ _ _ _ _ _ hr4];rfl) underlying23 rfl) trivial ?_ yn;refine Dz [3] ?_;refine Yx 3 (og f177 1 3) (.slice a n c) (λ_=>AA 23 _ ⟨g2,0,none⟩ _ _ rfl (by kernel_rfl) (by rw[Ad _ _ _ _ _ _ hr4];rfl) underlying23 rfl) trivial ?_ yn;refine Dz [4] ?_;refine Qc 4 #[.slice aq nq cq, .slice a n c] 23 2 (λw' g h=>trivial) ?_ yn;intro w17 g18 hn19 hL;replace hJ:=V.go hJ hn19.below;refine Dz [5] ?_;replace hp:=((hp.go hn3.below).drew).go hn19.below;replace hq:=((hq.go hn3.below).drew).go hn19.below;refine Yc 5 (R:=λu w'=>∃a2 n2 c2,u= .slice a2 n2 c2/\Sk (λb=>(w17).heap.size<=b) w' a2 n2 c2 (q++p)/\Bl (w17) w') (D1 hq hp hL (by omega) (by omega)) (λu w' h=>trivial) ?_ yn;rintro _ u20⟨a3,n3,c3,rfl,hs3,hb21⟩;replace hB:=((hB.go hn3.below).drew).go hn19.below;have hsB:=hB.size;replace hJ:=V.go hJ hb21;refine Dz [8] ?_;have l3:=hs3.len;rw[Ab]at l3;replace hx:=(((hx.go hn3.below).drew).go hn19.below).go hb21;replace hY:=(((hY.go hn3.below).drew).go hn19.below).go hb21;replace hB:=hB.go hb21;refine Yc 8 (R:=RB U J Jx (u20) (pre++[((Ni.keyP (q++p)).1,x)])) (JA V hs3 hx (by omega) (by omega) hY hJ hN (Ar hB0 hB.size)) (λu w' h=>trivial) ?_ yn;rintro _ u8⟨b8,rfl,hR8,hX8⟩;have hBk:=hB;refine Dx [] 9 (og f177 1 9) (.bool b8) (λv hv _=>by kernel_rfl) trivial<|Do ?_;exact Hr 2 (.bool b8) ⟨_,rfl,b8,rfl,λe=>⟨(hR8 e).1,(KpU.of_below _ hBk).trans (hR8 e).2 hBk.size⟩,hX8⟩
theorem Ty{l:Nat}{Z:PList}{J:PList->World->Prop}(V:Vis l B0 Z U J Jx){t:Tr}{Tu:TypeId}{xu:Value}(hp:Sk K w a n c p)(ht:TA K w t (.iface Tu xu))(hKU:∀b,K b->¬U b)(hF:EC l B0 Z U J Jx t)(hOc:Tr.Ok B t)(hq:Sk K' w aq nq cq q)(hY:Rw gY w #[.func (.yield l) #[] #[]] 71){pre:PList}(hJ:J pre w)(hN:(pre++entsF q (ext p t))<+:Z)(hB0:B0<=w.heap.size)(hUY:¬U gY)(h64:nq+n+B<=64):
 Calls prog 195 #[.agg #[.slice a n c, .iface Tu xu], .slice aq nq cq, .func (.func 77) #[] #[.pointer (some ⟨gY,0,none⟩)]] w λe w'=>∃u,e= .returned u/\RB U J Jx w (pre++entsF q (ext p t)) u w':=by
 have hB:=Bl.refl w;have lp:=hp.len;have lq:=hq.len;refine EO func195 18<|Hn 2 (#[.slice a n c, .iface Tu xu]) 226 ?_;intro w1 g2 hn3 hr4;replace hJ:=V.go hJ hn3.below;refine Hj 4 (λ_=>True) (trivial) ?_;replace hJ:=V.go hJ (Ak _ _).drew;refine Dy [0,2,3,7] [1,4] trivial ?_;replace hr4:=hr4.drew;refine Yx 1 (og f195 1 1) (.iface Tu xu) (λ_=>AA 74 _ ⟨g2,1,none⟩ _ _ rfl (by kernel_rfl) (by rw[Ad _ _ _ _ _ _ hr4];rfl) underlying74 rfl) trivial ?_ ?_
 ·skip
  refine Dx [] 8 (og f195 1 8) (.iface Tu xu) (λv hv=>(λ_=>by kernel_rfl)) trivial<|Dy [9] [4] trivial ?_;refine Yx 4 (og f195 1 4) (.slice a n c) (λ_=>AA 23 _ ⟨g2,0,none⟩ _ _ rfl (by kernel_rfl) (by rw[Ad _ _ _ _ _ _ hr4];rfl) underlying23 rfl) trivial ?_ yn;refine Dz [5] ?_;refine Qc 5 #[.slice aq nq cq, .slice a n c] 23 2 (λw' g h=>trivial) ?_ yn;intro w5 g6 hn7 hL;replace hJ:=V.go hJ hn7.below;refine Dz [6] ?_;replace hp:=((hp.go hn3.below).drew).go hn7.below;replace hq:=((hq.go hn3.below).drew).go hn7.below;refine Yc 6 (R:=λu w'=>∃a2 n2 c2,u= .slice a2 n2 c2/\Sk (λb=>(w5).heap.size<=b) w' a2 n2 c2 (q++p)/\Bl (w5) w') (D1 hq hp hL (by omega) (by omega)) (λu w' h=>trivial) ?_ yn;rintro _ u8⟨a3,n3,c3,rfl,hs3,hb9⟩;replace hB:=((hB.go hn3.below).drew).go hn7.below;have hsB:=hB.size;replace hJ:=V.go hJ hb9;refine Dz [10] ?_;have l3:=hs3.len;rw[Ab]at l3;replace hY:=(((hY.go hn3.below).drew).go hn7.below).go hb9;replace ht:=(((ht.go hn3.below).drew).go hn7.below).go hb9;replace hB:=hB.go hb9;obtain⟨T12,x13,f14,he15,hi10,hc11⟩:=(hF hOc (by omega) ht hKU hs3 (λb hb hu=>by have:=V.lo b hu;have:=hB.size;omega) hY hUY hJ hN (Ar hB0 hB.size));refine Ym 10 (og f195 1 10) f14 (#[x13]++#[.slice a3 n3 c3, .func (.func 77) #[] #[.pointer (some ⟨gY,0,none⟩)]]) (λ_=>hi10 _ _ _ _ _ _ _ rfl (by kernel_rfl) (by kernel_rfl)) (R:=RB U J Jx (u8) (pre++entsF (q++p) t)) ?_ (λu w' h=>trivial) ?_ yn
  ·exact hc11
  rintro _ u8⟨b8,rfl,hR8,hX8⟩;have hBk:=hB;refine Dx [] 11 (og f195 1 11) (.bool b8) (λv hv _=>by kernel_rfl) trivial<|Do ?_;exact Hr 2 (.bool b8) ⟨_,rfl,b8,rfl,λe=>⟨(hR8 e).1,(KpU.of_below _ hBk).trans (hR8 e).2 hBk.size⟩,hX8⟩
 refine Yx 4 (og f195 1 4) (.slice a n c) (λ_=>AA 23 _ ⟨g2,0,none⟩ _ _ rfl (by kernel_rfl) (by rw[Ad _ _ _ _ _ _ hr4];rfl) underlying23 rfl) trivial ?_ yn;refine Dz [1,5] ?_;refine Yx 1 (og f195 1 1) (.iface Tu xu) (λ_=>AA 74 _ ⟨g2,1,none⟩ _ _ rfl (by kernel_rfl) (by rw[Ad _ _ _ _ _ _ hr4];rfl) underlying74 rfl) trivial ?_ ?_
 ·skip
  refine Dx [] 8 (og f195 1 8) (.iface Tu xu) (λv hv=>(λ_=>by kernel_rfl)) trivial<|Dy [9] [5] trivial ?_;refine Qc 5 #[.slice aq nq cq, .slice a n c] 23 2 (λw' g h=>trivial) ?_ yn;intro w16 g17 hn18 hL;replace hJ:=V.go hJ hn18.below;refine Dz [6] ?_;replace hp:=((hp.go hn3.below).drew).go hn18.below;replace hq:=((hq.go hn3.below).drew).go hn18.below;refine Yc 6 (R:=λu w'=>∃a2 n2 c2,u= .slice a2 n2 c2/\Sk (λb=>(w16).heap.size<=b) w' a2 n2 c2 (q++p)/\Bl (w16) w') (D1 hq hp hL (by omega) (by omega)) (λu w' h=>trivial) ?_ yn;rintro _ u19⟨a3,n3,c3,rfl,hs3,hb20⟩;replace hB:=((hB.go hn3.below).drew).go hn18.below;have hsB:=hB.size;replace hJ:=V.go hJ hb20;refine Dz [10] ?_;have l3:=hs3.len;rw[Ab]at l3;replace hY:=(((hY.go hn3.below).drew).go hn18.below).go hb20;replace ht:=(((ht.go hn3.below).drew).go hn18.below).go hb20;replace hB:=hB.go hb20;obtain⟨T23,x24,f25,he26,hi21,hc22⟩:=(hF hOc (by omega) ht hKU hs3 (λb hb hu=>by have:=V.lo b hu;have:=hB.size;omega) hY hUY hJ hN (Ar hB0 hB.size));refine Ym 10 (og f195 1 10) f25 (#[x24]++#[.slice a3 n3 c3, .func (.func 77) #[] #[.pointer (some ⟨gY,0,none⟩)]]) (λ_=>hi21 _ _ _ _ _ _ _ rfl (by kernel_rfl) (by kernel_rfl)) (R:=RB U J Jx (u19) (pre++entsF (q++p) t)) ?_ (λu w' h=>trivial) ?_ yn
  ·exact hc22
  rintro _ u8⟨b8,rfl,hR8,hX8⟩;have hBk:=hB;refine Dx [] 11 (og f195 1 11) (.bool b8) (λv hv _=>by kernel_rfl) trivial<|Do ?_;exact Hr 2 (.bool b8) ⟨_,rfl,b8,rfl,λe=>⟨(hR8 e).1,(KpU.of_below _ hBk).trans (hR8 e).2 hBk.size⟩,hX8⟩
 refine Qc 5 #[.slice aq nq cq, .slice a n c] 23 2 (λw' g h=>trivial) ?_ yn;intro w27 g28 hn29 hL;replace hJ:=V.go hJ hn29.below;refine Dz [1,6] ?_;replace hr4:=hr4.go hn29.below;refine Yx 1 (og f195 1 1) (.iface Tu xu) (λ_=>AA 74 _ ⟨g2,1,none⟩ _ _ rfl (by kernel_rfl) (by rw[Ad _ _ _ _ _ _ hr4];rfl) underlying74 rfl) trivial ?_ ?_
 ·skip
  refine Dx [] 8 (og f195 1 8) (.iface Tu xu) (λv hv=>(λ_=>by kernel_rfl)) trivial<|Dy [9] [6] trivial ?_;replace hp:=((hp.go hn3.below).drew).go hn29.below;replace hq:=((hq.go hn3.below).drew).go hn29.below;refine Yc 6 (R:=λu w'=>∃a2 n2 c2,u= .slice a2 n2 c2/\Sk (λb=>(w27).heap.size<=b) w' a2 n2 c2 (q++p)/\Bl (w27) w') (D1 hq hp hL (by omega) (by omega)) (λu w' h=>trivial) ?_ yn;rintro _ u30⟨a3,n3,c3,rfl,hs3,hb31⟩;replace hB:=((hB.go hn3.below).drew).go hn29.below;have hsB:=hB.size;replace hJ:=V.go hJ hb31;refine Dz [10] ?_;have l3:=hs3.len;rw[Ab]at l3;replace hY:=(((hY.go hn3.below).drew).go hn29.below).go hb31;replace ht:=(((ht.go hn3.below).drew).go hn29.below).go hb31;replace hB:=hB.go hb31;obtain⟨T34,x35,f36,he37,hi32,hc33⟩:=(hF hOc (by omega) ht hKU hs3 (λb hb hu=>by have:=V.lo b hu;have:=hB.size;omega) hY hUY hJ hN (Ar hB0 hB.size));refine Ym 10 (og f195 1 10) f36 (#[x35]++#[.slice a3 n3 c3, .func (.func 77) #[] #[.pointer (some ⟨gY,0,none⟩)]]) (λ_=>hi32 _ _ _ _ _ _ _ rfl (by kernel_rfl) (by kernel_rfl)) (R:=RB U J Jx (u30) (pre++entsF (q++p) t)) ?_ (λu w' h=>trivial) ?_ yn
  ·exact hc33
  rintro _ u8⟨b8,rfl,hR8,hX8⟩;have hBk:=hB;refine Dx [] 11 (og f195 1 11) (.bool b8) (λv hv _=>by kernel_rfl) trivial<|Do ?_;exact Hr 2 (.bool b8) ⟨_,rfl,b8,rfl,λe=>⟨(hR8 e).1,(KpU.of_below _ hBk).trans (hR8 e).2 hBk.size⟩,hX8⟩
 replace hp:=((hp.go hn3.below).drew).go hn29.below;replace hq:=((hq.go hn3.below).drew).go hn29.below;refine Yc 6 (R:=λu w'=>∃a2 n2 c2,u= .slice a2 n2 c2/\Sk (λb=>(w27).heap.size<=b) w' a2 n2 c2 (q++p)/\Bl (w27) w') (D1 hq hp hL (by omega) (by omega)) (λu w' h=>trivial) ?_ yn;rintro _ u38⟨a3,n3,c3,rfl,hs3,hb39⟩;replace hB:=((hB.go hn3.below).drew).go hn29.below;have hsB:=hB.size;replace hJ:=V.go hJ hb39;refine Dz [1] ?_;replace hr4:=hr4.go hb39;refine Yx 1 (og f195 1 1) (.iface Tu xu) (λ_=>AA 74 _ ⟨g2,1,none⟩ _ _ rfl (by kernel_rfl) (by rw[Ad _ _ _ _ _ _ hr4];rfl) underlying74 rfl) trivial ?_ yn;refine Dx [] 8 (og f195 1 8) (.iface Tu xu) (λv hv=>(λ_=>by kernel_rfl)) trivial<|Dy [9] [10] trivial ?_;have l3:=hs3.len;rw[Ab]at l3;replace hY:=(((hY.go hn3.below).drew).go hn29.below).go hb39;replace ht:=(((ht.go hn3.below).drew).go hn29.below).go hb39;replace hB:=hB.go hb39;obtain⟨T42,x43,f44,he45,hi40,hc41⟩:=(hF hOc (by omega) ht hKU hs3 (λb hb hu=>by have:=V.lo b hu;have:=hB.size;omega) hY hUY hJ hN (Ar hB0 hB.size));refine Ym 10 (og f195 1 10) f44 (#[x43]++#[.slice a3 n3 c3, .func (.func 77) #[] #[.pointer (some ⟨gY,0,none⟩)]]) (λ_=>hi40 _ _ _ _ _ _ _ rfl (by kernel_rfl) (by kernel_rfl)) (R:=RB U J Jx (u38) (pre++entsF (q++p) t)) ?_ (λu w' h=>trivial) ?_ yn
 ·exact hc41
 rintro _ u8⟨b8,rfl,hR8,hX8⟩;have hBk:=hB;refine Dx [] 11 (og f195 1 11) (.bool b8) (λv hv _=>by kernel_rfl) trivial<|Do ?_;exact Hr 2 (.bool b8) ⟨_,rfl,b8,rfl,λe=>⟨(hR8 e).1,(KpU.of_below _ hBk).trans (hR8 e).2 hBk.size⟩,hX8⟩
theorem Xt{l:Nat}{Z:PList}{J:PList->World->Prop}(V:Vis l B0 Z U J Jx)(hk0:TK K w k vs)(hx:Sk K w a n c x)(hn2:n<=256)(hKU:∀b,K b->¬U b)(hF:∀i,EC l B0 Z U J Jx (k i))(hO:∀j,k j=no∨(1<=B/\Tr.Ok (B-1) (k j)))(hq0:Sk K' w aq nq cq q)(hY0:Rw gY w #[.func (.yield l) #[] #[]] 71){pre:PList}(hJ:J pre w)(hN:True)(hB0:B0<=w.heap.size)(hKU':∀b,K' b->¬U b)(hUY:¬U gY)(h64:nq+B<=64)(hnz:n=0){L:PList}(hL0:L=pre++flK q k 16)(hLN:L<+:Z):
 Calls prog 188 #[.agg (brc vs (.slice a n c)), .slice aq nq cq, .func (.func 77) #[] #[.pointer (some ⟨gY,0,none⟩)]] w λe w'=>∃u,e= .returned u/\RB U J Jx w L u w':=by
 have hk:=hk0;have hq:=hq0;have hY:=hY0;have hB:=Bl.refl w;have lx:=hx.len;have lq:=hq.len;refine EO func188 45<|Hn 2 (brc vs (.slice a n c)) 221 ?_;intro w1 g2 hn3 hr4;replace hJ:=V.go hJ hn3.below;have hgb:=hn3.hg;refine Hl 7 hr4 16 23 (.slice a n c)<|Hf 1 ((n:Int)>(0:Int))<|Hx 17 (og f188 3 1) (.agg (bra vs)) (λ_=>Qi hr4 _ rfl (by kernel_rfl)) ?_;replace hB:=hB.go hn3.below;have hKw:KpU U w.heap.size w w1:=KpU.of_below _ hB;replace hx:=hx.go hn3.below;replace hq:=hq.go hn3.below;replace hY:=hY.go hn3.below;replace hk:=hk.go hn3.below;clear hk hx hq hY hB;refine Ho (X:=Nat) 4 (λj=>[(23, .int .i64 (j:Int)),(22, .agg (bra vs)),(1, .slice aq nq cq),(2, .func (.func 77) #[] #[.pointer (some ⟨gY,0,none⟩)])]) (λj v=>J (pre++flK q k j) v/\KpU U w.heap.size w v/\j<=16) (λj=>16-j) 0 ⟨by rw[show flK q k 0=[]from rfl,A4];exact hJ,hKw,AD _⟩ ?_;clear hJ hKw hr4;rintro j v⟨hJ,hKw,hj⟩ I1 hN1;have hk:=hk0.kp hKw hKU;have hq:=hq0.kp hKw (Aa _) hKU';have hY:=hY0.kp hKw (lt_of_get hY0) hUY ⟨0,_,rfl,λ_ _ _=>by simp⟩;by_cases hlt:j<16
 ·skip
  have hB:=Bl.refl v;rcases hO j with hno|⟨hB1,hOk⟩
  ·skip
   have e0:vs j= .nilIface:=(by have:=hk j hlt;rw[hno]at this;exact this);refine Ht 2 ((j:Int)<(16:Int))<|Hx 11 (og f188 5 1) (.nilIface) (λ_=>Bu (Lv _ _ vs j hlt rfl (by kernel_rfl) (by kernel_rfl)) e0)<|Hj 5 (λ_=>True) (trivial) ?_;replace hJ:=V.go hJ (Ak _ _).drew;refine Dx [0] 1 (og f188 6 1) (.bool false) (λv hv=>(λ_=>by kernel_rfl)) trivial<|Dq [2,3,4,5,6,7,8,9,10,11,12,13,14,15,16] trivial<|Hi 6 ((j:Int)+1) ((j:Int)+1) ?_;replace hB:=hB.drew;exact hN1 2 (j+1) ⟨by rw[Vu hno];exact hJ,hKw.trans (KpU.of_below w.heap.size hB) (Aa _),by omega⟩ (by omega) (λ_=>by kernel_rfl)
  ·skip
   obtain⟨T0,v0,e0⟩:=(hk j hlt).iface hOk.ne;have hti:=hk j hlt;rw[e0]at hti;refine Ht 2 ((j:Int)<(16:Int))<|Hx 11 (og f188 5 1) (.iface T0 v0) (λ_=>Bu (Lv _ _ vs j hlt rfl (by kernel_rfl) (by kernel_rfl)) e0)<|Hj 5 (λ_=>True) (trivial) ?_;replace hJ:=V.go hJ (Ak _ _).drew;refine Dx [0] 1 (og f188 6 1) (.bool true) (λv hv=>(λ_=>by kernel_rfl)) trivial<|Dx [2,3,4,5] 6 (og f188 6 6) (.int .u8 (j:Int)) (λv hv _=>Bu (v:= .int .u8 (IntKind.u8.wrap (j:Int))) (by kernel_rfl) (Au (Value.int .u8) (Yg hlt))) trivial<|Dx [10] 11 (og f188 6 11) (.func (.method "pergola/trie.each") #[.iface T0 v0] #[]) (λv hv=>(λ_=>by kernel_rfl)) trivial ?_;replace hti:=hti.drew;refine Dx [] 12 (og f188 6 12) (.func (.method "pergola/trie.each") #[.iface T0 v0] #[]) (λv hv _=>Si hti hOk.ne 38 rfl (by kernel_rfl)) trivial<|Dy [13] [7] trivial ?_;refine Qc 7 #[.int .u8 (j:Int)] 5 1 (λw' g h=>trivial) ?_ yn;intro wI gI hnI _;have h1:Sk (λb=>True) wI (some ⟨gI,0,none⟩) 1 1 [(j:Int)]:=PY (by omega) hnI (λ_ _=>trivial);replace hJ:=V.go hJ hnI.below;refine Dz [8] ?_;refine Qc 8 #[.slice aq nq cq, .slice (some ⟨gI,0,none⟩) 1 1] 23 2 (λw' g h=>trivial) ?_ yn;intro w5 g6 hn7 hL;replace hJ:=V.go hJ hn7.below;refine Dz [9] ?_;replace hq:=(hq.drew.go hnI.below).go hn7.below;replace h1:=h1.go hn7.below;refine Yc 9 (R:=λu w'=>∃a2 n2 c2,u= .slice a2 n2 c2/\Sk (λb=>(w5).heap.size<=b) w' a2 n2 c2 (q++[(j:Int)])/\Bl (w5) w') (D1 hq h1 hL (by omega) (by omega)) (λu w' h=>trivial) ?_ yn;rintro _ u8⟨a3,n3,c3,rfl,hs3,hb9⟩;replace hB:=(hB.drew.go hnI.below).go hn7.below;have hsB:=hB.size;replace hJ:=V.go hJ hb9;refine Dz [14] ?_;have l3:=hs3.len;rw[Ab,Cp]at l3;replace hY:=((hY.drew.go hnI.below).go hn7.below).go hb9;replace hti:=((hti.go hnI.below).go hn7.below).go hb9;replace hB:=hB.go hb9;obtain⟨T12,x13,f14,he15,hi10,hc11⟩:=(hF j hOk (by omega) hti hKU hs3 (λb hb hu=>by have:=V.lo b hu;have:=hB.size;have:=hKw.size;omega) hY hUY hJ (by rw[hL0]at hLN;rw[A9,<-Li hOk.ne];exact((List.prefix_append_right_inj _).2 (Vv q k (show j+1<=16 by omega))).trans hLN) (Ar hB0 (Ar hKw.size hB.size)));refine Ym 14 (og f188 6 14) f14 (#[x13]++#[.slice a3 n3 c3, .func (.func 77) #[] #[.pointer (some ⟨gY,0,none⟩)]]) (λ_=>hi10 _ _ _ _ _ _ _ rfl (by kernel_rfl) (by kernel_rfl)) (R:=RB U J Jx (u8) (pre++flK q k j++entsF (q++[(j:Int)]) (k j))) ?_ (λu w' h=>trivial) ?_ yn
   ·exact hc11
   rintro _ u9⟨b9,rfl,hR9,hX9⟩;have hBk9:=hB;refine Dx [] 15 (og f188 6 15) (.bool (!b9)) (λv hv _=>by kernel_rfl) trivial<|Dx [] 16 (og f188 6 16) (.bool (!b9)) (λv hv _=>by kernel_rfl) trivial<|Do ?_;cases b9 with
   |true=>
    refine Hi 6 ((j:Int)+1) ((j:Int)+1) ?_;exact hN1 2 (j+1) ⟨by rw[Li hOk.ne,<-A9];exact(hR9 rfl).1,(hKw.trans (KpU.of_below w.heap.size hBk9) (Aa _)).trans (hR9 rfl).2 (Ar hKw.size hBk9.size),by omega⟩ (by omega) (λ_=>by kernel_rfl)
   |false=>
    exact Hr 13 (.bool false) ⟨_,rfl,false,rfl,(λe=>by cases e),λ_=>hX9 rfl⟩
 obtain rfl:j=16:=by omega
 exact Hr 18 (.bool true) ⟨_,rfl,true,rfl,(λ_=>⟨by rw[hL0];exact hJ,hKw⟩),λe=>by cases e⟩
theorem Xu{l:Nat}{Z:PList}{J:PList->World->Prop}(V:Vis l B0 Z U J Jx)(hk0:TK K w k vs)(hx:Sk K w a n c x)(hn2:n<=256)(hKU:∀b,K b->¬U b)(hF:∀i,EC l B0 Z U J Jx (k i))(hO:∀j,k j=no∨(1<=B/\Tr.Ok (B-1) (k j)))(hq0:Sk K' w aq nq cq q)(hY0:Rw gY w #[.func (.yield l) #[] #[]] 71){pre:PList}(hJ:J pre w)(hN:True)(hB0:B0<=w.heap.size)(hKU':∀b,K' b->¬U b)(hUY:¬U gY)(h64:nq+B<=64)(hnz:0<n){L:PList}(hL0:L=pre++[((Ni.keyP q).1,x)]++flK q k 16)(hLN:L<+:Z):
 Calls prog 188 #[.agg (brc vs (.slice a n c)), .slice aq nq cq, .func (.func 77) #[] #[.pointer (some ⟨gY,0,none⟩)]] w λe w'=>∃u,e= .returned u/\RB U J Jx w L u w':=by
 have hk:=hk0;have hq:=hq0;have hY:=hY0;have hB:=Bl.refl w;have lx:=hx.len;have lq:=hq.len;refine EO func188 45<|Hn 2 (brc vs (.slice a n c)) 221 ?_;intro w1 g2 hn3 hr4;replace hJ:=V.go hJ hn3.below;have hgb:=hn3.hg;refine Hl 7 hr4 16 23 (.slice a n c)<|Ht 1 ((n:Int)>(0:Int))<|Hl 4 hr4 16 23 (.slice a n c) ?_;replace hB:=hB.go hn3.below;replace hx:=hx.go hn3.below;replace hq:=hq.go hn3.below;replace hY:=hY.go hn3.below;refine Hc 0 (R:=RB U J Jx (w1) (pre++[((Ni.keyP q).1,x)])) (JA V hq hx (by omega) (by omega) hY hJ (by rw[hL0]at hLN;exact(List.prefix_append _ _).trans hLN) (Ar hB0 hB.size)) ?_;rintro _ u8⟨b8,rfl,hR8,hX8⟩;have hBk:=hB;refine Hp 0 (.bool (!b8))<|Hp 0 (.bool (!b8)) ?_;cases b8 with
 |true=>
  obtain⟨hJ8,hk8⟩:=hR8 rfl;replace hr4:=hr4.kp hk8 (lt_of_get hr4) (λhu=>by have:=V.lo _ hu;omega) (hk0.pr _);have hKw:KpU U w.heap.size w u8:=(KpU.of_below _ hBk).trans hk8 hBk.size;replace hJ:=hJ8;replace hk:=hk.go hn3.below;clear hk hx hq hY hB;refine Hx 9 (og f188 3 1) (.agg (bra vs)) (λ_=>Qi hr4 _ rfl (by kernel_rfl))<|Ho (X:=Nat) 4 (λj=>[(23, .int .i64 (j:Int)),(22, .agg (bra vs)),(1, .slice aq nq cq),(2, .func (.func 77) #[] #[.pointer (some ⟨gY,0,none⟩)])]) (λj v=>J (pre++[((Ni.keyP q).1,x)]++flK q k j) v/\KpU U w.heap.size w v/\j<=16) (λj=>16-j) 0 ⟨by rw[show flK q k 0=[]from rfl,A4];exact hJ,hKw,AD _⟩ ?_;clear hJ hKw hr4;rintro j v⟨hJ,hKw,hj⟩ I1 hN1;have hk:=hk0.kp hKw hKU;have hq:=hq0.kp hKw (Aa _) hKU';have hY:=hY0.kp hKw (lt_of_get hY0) hUY ⟨0,_,rfl,λ_ _ _=>by simp⟩;by_cases hlt:j<16
  ·skip
   have hB:=Bl.refl v;rcases hO j with hno|⟨hB1,hOk⟩
   ·skip
    have e0:vs j= .nilIface:=(by have:=hk j hlt;rw[hno]at this;exact this);refine Ht 2 ((j:Int)<(16:Int))<|Hx 11 (og f188 5 1) (.nilIface) (λ_=>Bu (Lv _ _ vs j hlt rfl (by kernel_rfl) (by kernel_rfl)) e0)<|Hj 5 (λ_=>True) (trivial) ?_;replace hJ:=V.go hJ (Ak _ _).drew;refine Dx [0] 1 (og f188 6 1) (.bool false) (λv hv=>(λ_=>by kernel_rfl)) trivial<|Dq [2,3,4,5,6,7,8,9,10,11,12,13,14,15,16] trivial<|Hi 6 ((j:Int)+1) ((j:Int)+1) ?_;replace hB:=hB.drew;exact hN1 2 (j+1) ⟨by rw[Vu hno];exact hJ,hKw.trans (KpU.of_below w.heap.size hB) (Aa _),by omega⟩ (by omega) (λ_=>by kernel_rfl)
   ·skip
    obtain⟨T0,v0,e0⟩:=(hk j hlt).iface hOk.ne;have hti:=hk j hlt;rw[e0]at hti;refine Ht 2 ((j:Int)<(16:Int))<|Hx 11 (og f188 5 1) (.iface T0 v0) (λ_=>Bu (Lv _ _ vs j hlt rfl (by kernel_rfl) (by kernel_rfl)) e0)<|Hj 5 (λ_=>True) (trivial) ?_;replace hJ:=V.go hJ (Ak _ _).drew;refine Dx [0] 1 (og f188 6 1) (.bool true) (λv hv=>(λ_=>by kernel_rfl)) trivial<|Dx [2,3,4,5] 6 (og f188 6 6) (.int .u8 (j:Int)) (λv hv _=>Bu (v:= .int .u8 (IntKind.u8.wrap (j:Int))) (by kernel_rfl) (Au (Value.int .u8) (Yg hlt))) trivial<|Dx [10] 11 (og f188 6 11) (.func (.method "pergola/trie.each") #[.iface T0 v0] #[]) (λv hv=>(λ_=>by kernel_rfl)) trivial ?_;replace hti:=hti.drew;refine Dx [] 12 (og f188 6 12) (.func (.method "pergola/trie.each") #[.iface T0 v0] #[]) (λv hv _=>Si hti hOk.ne 38 rfl (by kernel_rfl)) trivial<|Dy [13] [7] trivial ?_;refine Qc 7 #[.int .u8 (j:Int)] 5 1 (λw' g h=>trivial) ?_ yn;intro wI gI hnI _;have h1:Sk (λb=>True) wI (some ⟨gI,0,none⟩) 1 1 [(j:Int)]:=PY (by omega) hnI (λ_ _=>trivial);replace hJ:=V.go hJ hnI.below;refine Dz [8] ?_;refine Qc 8 #[.slice aq nq cq, .slice (some ⟨gI,0,none⟩) 1 1] 23 2 (λw' g h=>trivial) ?_ yn;intro w5 g6 hn7 hL;replace hJ:=V.go hJ hn7.below;refine Dz [9] ?_;replace hq:=(hq.drew.go hnI.below).go hn7.below;replace h1:=h1.go hn7.below;refine Yc 9 (R:=λu w'=>∃a2 n2 c2,u= .slice a2 n2 c2/\Sk (λb=>(w5).heap.size<=b) w' a2 n2 c2 (q++[(j:Int)])/\Bl (w5) w') (D1 hq h1 hL (by omega) (by omega)) (λu w' h=>trivial) ?_ yn;rintro _ u8⟨a3,n3,c3,rfl,hs3,hb9⟩;replace hB:=(hB.drew.go hnI.below).go hn7.below;have hsB:=hB.size;replace hJ:=V.go hJ hb9;refine Dz [14] ?_;have l3:=hs3.len;rw[Ab,Cp]at l3;replace hY:=((hY.drew.go hnI.below).go hn7.below).go hb9;replace hti:=((hti.go hnI.below).go hn7.below).go hb9;replace hB:=hB.go hb9;obtain⟨T12,x13,f14,he15,hi10,hc11⟩:=(hF j hOk (by omega) hti hKU hs3 (λb hb hu=>by have:=V.lo b hu;have:=hB.size;have:=hKw.size;omega) hY hUY hJ (by rw[hL0]at hLN;rw[A9,<-Li hOk.ne];exact((List.prefix_append_right_inj _).2 (Vv q k (show j+1<=16 by omega))).trans hLN) (Ar hB0 (Ar hKw.size hB.size)));refine Ym 14 (og f188 6 14) f14 (#[x13]++#[.slice a3 n3 c3, .func (.func 77) #[] #[.pointer (some ⟨gY,0,none⟩)]]) (λ_=>hi10 _ _ _ _ _ _ _ rfl (by kernel_rfl) (by kernel_rfl)) (R:=RB U J Jx (u8) (pre++[((Ni.keyP q).1,x)]++flK q k j++entsF (q++[(j:Int)]) (k j))) ?_ (λu w' h=>trivial) ?_ yn
    ·exact hc11
    rintro _ u9⟨b9,rfl,hR9,hX9⟩;have hBk9:=hB;refine Dx [] 15 (og f188 6 15) (.bool (!b9)) (λv hv _=>by kernel_rfl) trivial<|Dx [] 16 (og f188 6 16) (.bool (!b9)) (λv hv _=>by kernel_rfl) trivial<|Do ?_;cases b9 with
    |true=>
     refine Hi 6 ((j:Int)+1) ((j:Int)+1) ?_;exact hN1 2 (j+1) ⟨by rw[Li hOk.ne,<-A9];exact(hR9 rfl).1,(hKw.trans (KpU.of_below w.heap.size hBk9) (Aa _)).trans (hR9 rfl).2 (Ar hKw.size hBk9.size),by omega⟩ (by omega) (λ_=>by kernel_rfl)
    |false=>
     exact Hr 13 (.bool false) ⟨_,rfl,false,rfl,(λe=>by cases e),λ_=>hX9 rfl⟩
  obtain rfl:j=16:=by omega
  exact Hr 18 (.bool true) ⟨_,rfl,true,rfl,(λ_=>⟨by rw[hL0];exact hJ,hKw⟩),λe=>by cases e⟩
 |false=>
  exact Hr 10 (.bool false) ⟨_,rfl,false,rfl,(λe=>by cases e),λ_=>hX8 rfl⟩
theorem YS{l:Nat}{Z:PList}{J:PList->World->Prop}(V:Vis l B0 Z U J Jx):∀t:Tr,EC l B0 Z U J Jx t:=by
 intro t
 induction t with
 |no=>intro K K' w v a n c B gY q pre hO;exact hO.elim
 |leaf p x=>
  intro K K' w v a n c B gY q pre hO h64 ht hKU hq hKU' hY hUY hJ hN hB0;obtain⟨a1,n1,c1,a2,n2,c2,rfl,h1,h2,h3⟩:=ht;exact⟨_,_,_,rfl,Tt _,Tx V h1 h2 h3 hq hY hJ hN hB0 (by have:=h1.len;have:=hO.2.1;omega)⟩
 |ext p t ih=>
  intro K K' w v a n c B gY q pre hO h64 ht hKU hq hKU' hY hUY hJ hN hB0;obtain⟨a1,n1,c1,u,rfl,h1,h2⟩:=ht;obtain⟨o1,o2,o3,o4,o5⟩:=hO;obtain⟨Tu,xu,rfl⟩:=h2.iface (λe=>by rw[e]at o4;simp[isBr]at o4);exact⟨_,_,_,rfl,Tv _,Ty V h1 h2 hKU ih o5 hq hY hJ hN hB0 hUY (by have:=h1.len;omega)⟩
 |br k x ih=>
  intro K K' w v a n c B gY q pre hO h64 ht hKU hq hKU' hY hUY hJ hN hB0;obtain⟨vs,a1,n1,c1,rfl,h1,h2,h3⟩:=ht;refine⟨_,_,_,rfl,Tw _,?_⟩;have hO':∀j,k j=no∨(1<=B/\Tr.Ok (B-1) (k j)):=λj=>by
   rcases hO.1 j with h|⟨_,h1,h2⟩
   ·exact .inl h
   ·exact .inr ⟨h1,h2⟩
  have lx:=h2.len;rcases Ej n1 with h|h
  ·have hx0:x=[]:=A3 (by omega);exact Xt V h1 h2 h3 hKU ih hO' hq hY hJ trivial hB0 hKU' hUY h64 h (by simp[entsF,flK,hx0]) hN
  ·have hx0:x≠[]:=λe=>by rw[e]at lx;simp at lx;omega
   exact Xu V h1 h2 h3 hKU ih hO' hq hY hJ trivial hB0 hKU' hUY h64 h (by simp[entsF,flK,hx0]) hN
end Go.Proofs.YtefhepcplempkaaGreat
