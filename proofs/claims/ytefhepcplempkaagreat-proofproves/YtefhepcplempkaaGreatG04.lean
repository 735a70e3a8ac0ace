/- What weightOf and sizeOf answer. -/
import Derived.Test.YtefhepcplempkaaGreatAK
import Derived.Test.YtefhepcplempkaaGreatG03
import Derived.Deep.OwnRows
import Derived.Laws.OwnMore
set_option linter.unusedVariables false
set_option maxHeartbeats 2000000
open Go.Proofs.Tryz Go.RowKit
namespace Go.Proofs.YtefhepcplempkaaGreat
variable {w : World} {g d j n : Nat} {u : T}
theorem FN(l:Bool)(ba:Option Addr)(bn bc:Nat)(ia:Option Addr)(m ic:Nat)(bs:List Int)(d:Nat)(w:World)(hl:bs.length=bn)(hn:bn<=maxLen):
 Calls prog 145 #[.agg #[.bool l, .slice ba bn bc, .slice ia m ic], .int .i64 d] w λe w'=>e= .returned (.int .i64 (wt l bs d:Nat))/\Below w.heap.size w w':=by
 unfold maxLen at hn;cases l with
 |true=>
  by_cases hd:d=0
  ·subst hd;go_enter func145,ntmps145;go_wp2_with fail;go_ret;exact⟨by simp[wt],(Ak _ _).alloc (Aa _) _⟩
  ·have hd2:((d:Int)==0)=false:=(by simp;omega);go_enter func145,ntmps145;go_wp2_with fail
   all_goals
    go_ret;refine⟨?_,(Ak _ _).alloc (Aa _) _⟩;simp[wt,hd,hl];omega
 |false=>
  go_enter func145,ntmps145;go_wp2_with fail
  all_goals
   go_ret;refine⟨?_,(Ak _ _).alloc (Aa _) _⟩;simp[wt,hl];omega
theorem L5(l:Bool)(ba:Option Addr)(bn bc:Nat)(ia:Option Addr)(m ic:Nat)(bs:List Int)(n:Nat)(w:World)(h:Ag w ba bn bc bs)(hn:n<1000000000):
 Calls prog 127 #[.agg #[.bool l, .slice ba bn bc, .slice ia m ic], .int .i64 n] w λe w'=>e= .returned (.int .i64 (szOf l bs n:Nat))/\Below w.heap.size w w':=by
 have HS:Hid (szOf l bs n=if bare l bs then n else 1+n+(if 55<n then nb n else 0)):=rfl;generalize szOf l bs n=r at HS⊢;go_enter func127,ntmps127;go_wp2_with fail;refine(OF l ba bn bc ia m ic bs _ (h.at ((Ak _ _).alloc (Aa _) _))).mono ?_;rintro e w1⟨rfl,hb⟩;have hb2:=((Ak w.heap.size w).alloc (Aa _) (.cells #[.bool l, .slice ba bn bc, .slice ia m ic] 109)).trans (hb.mono (by simp));clear hb h;by_cases hbr:bare l bs=true
 ·have HR:=HS.out;rw[Ai hbr]at HR;rw[hbr];subst HR;go_wp2_with fail;go_ret;exact⟨rfl,hb2⟩
 ·have HR:=HS.out;have hbr2:bare l bs=false:=by simpa using hbr
  rw[Ae hbr]at HR;rw[hbr2];by_cases hn5:55<n
  ·rw[Ai hn5]at HR;have hn6:(55:Int)<n:=(by omega);have HH:=ZQ HR;clear HR HS;go_wp2_with fail
   go_loop [5,6] (λs q=>∃sn qn:Nat,s= .int .i64 sn/\q= .int .i64 qn/\sn+nb qn=r/\qn<1000000000/\r<1000000010) (λs q=>(intOf q).toNat)
   case atStart=>exact⟨1+n,n,by simp,rfl,by rw[HH.out],hn,by rw[HH.out];have:=Yh (n:=n) (by omega);omega⟩
   case round=>
    obtain⟨sn,qn,rfl,rfl,hs,hq,hr⟩:=hrel;have HS:=ZQ hs;clear hs;by_cases h0:qn=0
    ·subst h0;go_wp2_with fail;go_ret;have:=HS.out;rw[Iw]at this;exact⟨by rw[<-this];rfl,hb2⟩
    ·have hq0:(0:Int)<qn:=(by omega);have hsn:sn<1000000010:=(by have:=HS.out;omega);go_wp2_with fail
     go_round
     case rel=>exact⟨sn+1,qn/256,by simp,by simp,by have:=HS.out;rw[H9 (by omega)]at this;omega,by omega,hr⟩
     case measure=>simp[intOf];omega
  ·rw[Ae hn5]at HR;have hn6:¬(55:Int)<n:=(by omega);subst HR;go_wp2_with fail;go_ret;exact⟨by simp,hb2⟩
def BodyPost(t:T)(d W g:Nat)(w:World):Ending->World->Prop:=λe w'=>
 Touch g w w'/\(((wk t d W).2=0/\e= .returned (.tuple #[.int .i64 (szb t), .int .i64 0])/\w'.heap[g]?=some (.cells #[.int .i64 ((wk t d W).1:Nat)] 168))∨((wk t d W).2≠0/\e= .returned (.tuple #[.int .i64 0, .int .i64 ((wk t d W).2:Nat)])))
theorem Jm{w1:World}{W wx:Nat}{l:Bool}{bs:List Int}{X:Array Value}(hc:w.heap[g]?=some (.cells #[.int .i64 W] 168))(hx:wt l bs d=wx)(hle:W+wx<=150000000000000)
 (hb:Below (w.alloc (.cells X 109)).drew.heap.size (w.alloc (.cells X 109)).drew w1):
 Touch g w (w1.setCell ⟨g,0,none⟩ (.int .i64 (IntKind.i64.wrap ((W:Int)+(wt l bs d:Nat)))))/\(w1.setCell ⟨g,0,none⟩ (.int .i64 (IntKind.i64.wrap ((W:Int)+(wt l bs d:Nat))))).heap[g]?=some (.cells #[.int .i64 (W+wx:Nat)] 168)/\
  (w1.setCell ⟨g,0,none⟩ (.int .i64 (IntKind.i64.wrap ((W:Int)+(wt l bs d:Nat))))).heap[w.heap.size]?=some (.cells X 109):=by
 subst hx;have hg:=lt_of_get hc;have e:IntKind.i64.wrap ((W:Int)+(wt l bs d:Nat))=((W+wt l bs d:Nat):Int):=by rw[IntKind.wrap_i64];omega
 have hb2:Below w.heap.size w w1:=(((Ak w.heap.size w).alloc (Aa _) (.cells X 109)).drew).trans (hb.mono (by simp));have h1:w1.heap[g]?=some (.cells #[.int .i64 W] 168):=(hb2.block g hg).trans hc;have h2:w1.heap[w.heap.size]?=some (.cells X 109):=(hb.block _ (by simp)).trans (Aj w _);rw[e];refine⟨(Touch.of_below hb2).trans (Touch.setCell _ _ _ _),AX w1 g 0 _ _ _ h1,(AC _ _ _ _ (show w.heap.size≠g from by omega)).trans h2⟩
theorem UG(l:Bool)(bs:List Int)(its:List T)(x:V)(d W g:Nat)(w0 w:World)(hli:Lies w0 (.mk l bs its) x)(hbel:Below w0.heap.size w0 w)(hg:w0.heap.size<=g)(hcell:w.heap[g]?=some (.cells #[.int .i64 W] 168))(hW:W<=16777215)(hd:d<=8)(hbad:(l=true/\d=8)∨wrongForm l bs its=true∨16777215<W+wt l bs d):
 Calls prog 126 #[.pointer (some ⟨g,0,none⟩), .agg #[.bool x.l, .slice x.ba x.bn x.bc, .slice x.ia x.m x.ic], .int .i64 d] w (BodyPost (.mk l bs its) d W g w):=by
 obtain⟨l',ba,bn,bc,ia,m,ic⟩:=x;obtain⟨h1,h2,h3,h4,h5,⟨h7,h8⟩,h6⟩:=lies_eq.1 hli;simp only at h1 h2 h3 h4 h5 h6 h7 h8⊢;subst h1;have hgl:=lt_of_get hcell;have hbn:bn<=maxLen:=by unfold maxLen;omega
 have hic:ic<=2^63-1:=h5;have hm:m<=2^63-1:=by omega
 have hbn2:bn<=2^63-1:=hbn;have c0:∀o,(w.alloc o).cell? ⟨g,0,none⟩=some (.int .i64 W):=cell_alloc (by rw[Ad _ _ _ _ _ _ hcell];rfl);have f0:∀o,(w.alloc o).frozen? ⟨g,0,none⟩=false:=λo=>AY _ _ _ _ _ ((Az w o _ hgl).trans hcell);have HW:=Ji l' bs its d W;by_cases hdeep:l'=true/\d=8
 ·obtain⟨rfl,rfl⟩:=hdeep;have e1:wk (.mk true bs its) 8 W=(W,21):=by rw[HW];rfl
  go_enter func126,ntmps126;go_wp2_with fail;go_ret2;exact⟨Touch.of_below ((Ak _ _).alloc (Aa _) _), .inr (by rw[e1];exact⟨EL _,rfl⟩)⟩
 have hdp:(l'&&decide (8<=d))=false:=by
  cases l' with
  |false=>rfl
  |true=>simp at hdeep⊢;omega
 rw[Ae (by rw[hdp];decide)]at HW;by_cases hwf:wrongForm l' bs its=true
 ·rw[Ai hwf]at HW;cases l' with
  |true=>
   have hb0:(0:Int)<bn:=(by simp[wrongForm]at hwf;have:=h2.l;omega);have hd8:((d:Int)==8)=false:=(by simp;simp at hdeep;omega);go_enter func126,ntmps126;go_wp2_with fail;go_ret2;exact⟨Touch.of_below ((Ak _ _).alloc (Aa _) _), .inr (by rw[HW];exact⟨EL _,rfl⟩)⟩
  |false=>
   have hb0:(0:Int)<m:=(by simp[wrongForm]at hwf;omega);go_enter func126,ntmps126;go_wp2_with fail;go_ret2;exact⟨Touch.of_below ((Ak _ _).alloc (Aa _) _), .inr (by rw[HW];exact⟨EL _,rfl⟩)⟩
 rw[Ae hwf]at HW;have hwf2:((l'=true->bn=0)/\(l'=false->m=0)):=by
  simp[wrongForm]at hwf;have:=h2.l;constructor
  ·intro hl;have:=hwf.1 hl;subst this;simp at*;omega
  ·intro hl;have:=hwf.2 hl;subst this;simp at*;omega
 have hwt:wt l' bs d<=140737488351232:=by unfold wt;rw[h2.l];split<;>omega
 have HL:=ZQ h2.l;have H3:=ZQ h3;have H6:=ZQ h6;have HWW:=ZQ HW;have HWF:=ZQ hwf2;have HNW:=ZQ hwf;have hd8:l'=true->((d:Int)==8)=false:=λhl=>by subst hl;simp;simp at hdeep;omega
 have HD:=ZQ hd8;have HCE:=ZQ hcell;clear h3 h6 HW hwf2 hwf hd8 hdp hli hcell h2;obtain⟨wx,hwx⟩:∃wx,wt l' bs d=wx:=⟨_,rfl⟩;have HWX:=ZQ hwx;rw[hwx]at hwt HWW;clear hwx;have hwle:W+wx<=150000000000000:=by omega
 have hlong:16777215<W+wx:=by
  rcases hbad with h|h|h
  ·exact absurd h hdeep
  ·exact absurd h HNW.out
  ·rw[HWX.out]at h;exact h
 clear hdeep hbad
 ·have hl2:(16777215:Int)<((W+wx:Nat):Int):=by omega
  have hfin:wk (T.mk l' bs its) d W=(W+wx,20):=by rw[HWW.out,Ai hlong]
  have HF:=ZQ hfin;clear hfin;cases l' with
  |true=>
   have hb0:bn=0:=HWF.out.1 rfl;subst hb0;have hd8:=HD.out rfl;go_enter func126,ntmps126;go_wp2_with fail
   go_cut [] (λv=>Touch g w v/\v.heap[g]?=some (.cells #[.int .i64 (W+wx:Nat)] 168)/\v.heap[w.heap.size]?=some (.cells #[.bool true, .slice ba 0 bc, .slice ia m ic] 109))
   case first=>
    go_region_with (first|(go_at_call 145;refine(FN true ba _ bc ia m ic bs d _ HL.out hbn).mono ?_;rintro e w1⟨rfl,hb1⟩;have cg:=(hb1.cell (p:=⟨g,0,none⟩) (Af (c0 _))).trans (c0 _);have fg:=(hb1.frozen (p:=⟨g,0,none⟩) (Af (c0 _))).trans (f0 _)))
    all_goals
     go_wp2_with fail
     go_meet
     case rel=>exact Jm HCE.out HWX.out hwle hb1
   case rest=>
    obtain⟨ht,hc,hx⟩:=hcut;have hcg:wc.cell? ⟨g,0,none⟩=some (.int .i64 (W+wx:Nat)):=(by rw[Ad _ _ _ _ _ _ hc];rfl);have hx0:wc.cell? ⟨w.heap.size,0,none⟩=some (.bool true):=(by rw[Ad _ _ _ _ _ _ hx];rfl);have hx1:wc.cell? ⟨w.heap.size,1,none⟩=some (.slice ba 0 bc):=(by rw[Ad _ _ _ _ _ _ hx];rfl);have hx2:wc.cell? ⟨w.heap.size,2,none⟩=some (.slice ia m ic):=(by rw[Ad _ _ _ _ _ _ hx];rfl);go_wp2_with fail;go_ret2;exact⟨ht, .inr (by rw[HF.out];exact⟨EL _,rfl⟩)⟩
  |false=>
   have hm0:m=0:=HWF.out.2 rfl;subst hm0;go_enter func126,ntmps126;go_wp2_with fail
   go_cut [] (λv=>Touch g w v/\v.heap[g]?=some (.cells #[.int .i64 (W+wx:Nat)] 168)/\v.heap[w.heap.size]?=some (.cells #[.bool false, .slice ba bn bc, .slice ia 0 ic] 109))
   case first=>
    go_region_with (first|(go_at_call 145;refine(FN false ba _ bc ia 0 ic bs d _ HL.out hbn).mono ?_;rintro e w1⟨rfl,hb1⟩;have cg:=(hb1.cell (p:=⟨g,0,none⟩) (Af (c0 _))).trans (c0 _);have fg:=(hb1.frozen (p:=⟨g,0,none⟩) (Af (c0 _))).trans (f0 _)))
    all_goals
     go_wp2_with fail
     go_meet
     case rel=>exact Jm HCE.out HWX.out hwle hb1
   case rest=>
    obtain⟨ht,hc,hx⟩:=hcut;have hcg:wc.cell? ⟨g,0,none⟩=some (.int .i64 (W+wx:Nat)):=(by rw[Ad _ _ _ _ _ _ hc];rfl);have hx0:wc.cell? ⟨w.heap.size,0,none⟩=some (.bool false):=(by rw[Ad _ _ _ _ _ _ hx];rfl);have hx1:wc.cell? ⟨w.heap.size,1,none⟩=some (.slice ba bn bc):=(by rw[Ad _ _ _ _ _ _ hx];rfl);have hx2:wc.cell? ⟨w.heap.size,2,none⟩=some (.slice ia 0 ic):=(by rw[Ad _ _ _ _ _ _ hx];rfl);go_wp2_with fail;go_ret2;exact⟨ht, .inr (by rw[HF.out];exact⟨EL _,rfl⟩)⟩
theorem ST(bs:List Int)(its:List T)(x:V)(d W g:Nat)(w0 w:World)(hli:Lies w0 (.mk false bs its) x)(hbel:Below w0.heap.size w0 w)(hg:w0.heap.size<=g)(hcell:w.heap[g]?=some (.cells #[.int .i64 W] 168))(hW:W<=16777215)(hd:d<=8)
 (hdeep:¬(false=true/\d=8)) (hwf:wrongForm false bs its=false) (hlong:W+wt false bs d<=16777215):
 Calls prog 126 #[.pointer (some ⟨g,0,none⟩), .agg #[.bool x.l, .slice x.ba x.bn x.bc, .slice x.ia x.m x.ic], .int .i64 d] w (BodyPost (.mk false bs its) d W g w):=by
 obtain⟨l',ba,bn,bc,ia,m,ic⟩:=x;obtain⟨h1,h2,h3,h4,h5,⟨h7,h8⟩,h6⟩:=lies_eq.1 hli;simp only at h1 h2 h3 h4 h5 h6 h7 h8⊢;subst h1;have hgl:=lt_of_get hcell;have hbn:bn<=maxLen:=by unfold maxLen;omega
 have hic:ic<=2^63-1:=h5;have hm:m<=2^63-1:=by omega
 have hbn2:bn<=2^63-1:=hbn;have c0:∀o,(w.alloc o).cell? ⟨g,0,none⟩=some (.int .i64 W):=cell_alloc (by rw[Ad _ _ _ _ _ _ hcell];rfl);have f0:∀o,(w.alloc o).frozen? ⟨g,0,none⟩=false:=λo=>AY _ _ _ _ _ ((Az w o _ hgl).trans hcell);have HL:=ZQ h2.l;have H3:=ZQ h3;have H6:=ZQ h6;have HCE:=ZQ hcell;obtain⟨wx,hwx⟩:∃wx,wt false bs d=wx:=⟨_,rfl⟩;have HWX:=ZQ hwx;rw[hwx]at hlong;have hwle:W+wx<=150000000000000:=by omega
 have hl2:¬(16777215:Int)<((W+wx:Nat):Int):=by omega
 have hW0:W+wx<=16777215:=hlong;have hfin:wk (T.mk false bs its) d W=wks its (d+1) (W+wx):=by
  rw[Ji,Ae (by simp),Ae (by rw[hwf];decide),hwx,Ae (by omega)]
 have HF:=ZQ hfin;have hm0:m=0:=by rw[h3];simp[wrongForm]at hwf;rw[hwf];rfl
 subst hm0;have hits:its=[]:=A3 h3.symm;subst hits;clear hfin hwx hwf h3 h6 hcell hli h2 H3 H6;go_enter func126,ntmps126;go_wp2_with fail
 go_cut [] (λv=>Touch g w v/\v.heap[g]?=some (.cells #[.int .i64 (W+wx:Nat)] 168)/\v.heap[w.heap.size]?=some (.cells #[.bool false, .slice ba bn bc, .slice ia 0 ic] 109))
 case first=>
  go_region_with (first|(go_at_call 145;refine(FN false ba _ bc ia 0 ic bs d _ HL.out hbn).mono ?_;rintro e w1⟨rfl,hb1⟩;have cg:=(hb1.cell (p:=⟨g,0,none⟩) (Af (c0 _))).trans (c0 _);have fg:=(hb1.frozen (p:=⟨g,0,none⟩) (Af (c0 _))).trans (f0 _)))
  all_goals
   go_wp2_with fail
   go_meet
   case rel=>exact Jm HCE.out HWX.out hwle hb1
 case rest=>
  obtain⟨ht,hc,hx⟩:=hcut;have hcg:wc.cell? ⟨g,0,none⟩=some (.int .i64 (W+wx:Nat)):=by rw[Ad _ _ _ _ _ _ hc];rfl
  have hx0:wc.cell? ⟨w.heap.size,0,none⟩=some (.bool false):=by rw[Ad _ _ _ _ _ _ hx];rfl
  have hx1:wc.cell? ⟨w.heap.size,1,none⟩=some (.slice ba bn bc):=by rw[Ad _ _ _ _ _ _ hx];rfl
  have hx2:wc.cell? ⟨w.heap.size,2,none⟩=some (.slice ia 0 ic):=by rw[Ad _ _ _ _ _ _ hx];rfl
  have HT:=ZQ ht;have HC:=ZQ hc;clear ht hc hx;go_wp2_with fail
  go_loopw [8,59] (λq i v=>q= .int .i64 bn/\i= .int .i64 0/\v=wc) (λ_ i _=>0)
  case atStart=>exact⟨rfl,rfl,rfl⟩
  case round=>
   obtain⟨rfl,rfl,rfl⟩:=hrel;go_wp2_with fail;go_ret2;refine⟨HT.out, .inl ?_⟩;rw[HF.out,E1];refine⟨rfl,?_,HC.out⟩;rw[show szb (T.mk false bs [])=bn from by show bs.length+szs []=bn;rw[FM,HL.out];rfl];rfl
theorem SU(bs:List Int)(its:List T)(x:V)(d W g:Nat)(w0 w:World)(hli:Lies w0 (.mk true bs its) x)(hbel:Below w0.heap.size w0 w)(hg:w0.heap.size<=g)(hcell:w.heap[g]?=some (.cells #[.int .i64 W] 168))(hW:W<=16777215)(hd:d<=8)
 (hdeep:¬(true=true/\d=8)) (hwf:wrongForm true bs its=false) (hlong:W+wt true bs d<=16777215)
 (ih:∀t∈its,∀(x:V)(d W g:Nat)(w0 w:World),Lies w0 t x->Below w0.heap.size w0 w->w0.heap.size<=g->w.heap[g]?=some (.cells #[.int .i64 W] 168)->W<=16777215->d<=8->Calls prog 126 #[.pointer (some ⟨g,0,none⟩), .agg #[.bool x.l, .slice x.ba x.bn x.bc, .slice x.ia x.m x.ic], .int .i64 d] w (BodyPost t d W g w)):
 Calls prog 126 #[.pointer (some ⟨g,0,none⟩), .agg #[.bool x.l, .slice x.ba x.bn x.bc, .slice x.ia x.m x.ic], .int .i64 d] w (BodyPost (.mk true bs its) d W g w):=by
 obtain⟨l',ba,bn,bc,ia,m,ic⟩:=x;obtain⟨h1,h2,h3,h4,h5,⟨h7,h8⟩,h6⟩:=lies_eq.1 hli;simp only at h1 h2 h3 h4 h5 h6 h7 h8⊢;subst h1;have hgl:=lt_of_get hcell;have hbn:bn<=maxLen:=by unfold maxLen;omega
 have hic:ic<=2^63-1:=h5;have hm:m<=2^63-1:=by omega
 have hbn2:bn<=2^63-1:=hbn;have c0:∀o,(w.alloc o).cell? ⟨g,0,none⟩=some (.int .i64 W):=cell_alloc (by rw[Ad _ _ _ _ _ _ hcell];rfl);have f0:∀o,(w.alloc o).frozen? ⟨g,0,none⟩=false:=λo=>AY _ _ _ _ _ ((Az w o _ hgl).trans hcell);have HL:=ZQ h2.l;have H3:=ZQ h3;have H6:=ZQ h6;have HCE:=ZQ hcell;obtain⟨wx,hwx⟩:∃wx,wt true bs d=wx:=⟨_,rfl⟩;have HWX:=ZQ hwx;rw[hwx]at hlong;have hwle:W+wx<=150000000000000:=by omega
 have hl2:¬(16777215:Int)<((W+wx:Nat):Int):=by omega
 have hW0:W+wx<=16777215:=hlong;have hfin:wk (T.mk true bs its) d W=wks its (d+1) (W+wx):=by
  rw[Ji,Ae (by simp at hdeep⊢;omega),Ae (by rw[hwf];decide),hwx,Ae (by omega)]
 have HF:=ZQ hfin;have hb0:bn=0:=by rw[<-h2.l];simp[wrongForm]at hwf;rw[hwf];rfl
 subst hb0;have hd8:((d:Int)==8)=false:=by simp;simp at hdeep;omega
 have hd7:d+1<=8:=by simp at hdeep;omega
 have HI:=ZQ ih;clear hfin hwx hwf h3 h6 hcell hli h2 ih hdeep;go_enter func126,ntmps126;go_wp2_with fail
 go_cut [] (λv=>Touch g w v/\v.heap[g]?=some (.cells #[.int .i64 (W+wx:Nat)] 168)/\v.heap[w.heap.size]?=some (.cells #[.bool true, .slice ba 0 bc, .slice ia m ic] 109))
 case first=>
  go_region_with (first|(go_at_call 145;refine(FN true ba _ bc ia m ic bs d _ HL.out hbn).mono ?_;rintro e w1⟨rfl,hb1⟩;have cg:=(hb1.cell (p:=⟨g,0,none⟩) (Af (c0 _))).trans (c0 _);have fg:=(hb1.frozen (p:=⟨g,0,none⟩) (Af (c0 _))).trans (f0 _)))
  all_goals
   go_wp2_with fail
   go_meet
   case rel=>exact Jm HCE.out HWX.out hwle hb1
 case rest=>
  obtain⟨ht,hc,hx⟩:=hcut;have hcg:wc.cell? ⟨g,0,none⟩=some (.int .i64 (W+wx:Nat)):=by rw[Ad _ _ _ _ _ _ hc];rfl
  have hx0:wc.cell? ⟨w.heap.size,0,none⟩=some (.bool true):=by rw[Ad _ _ _ _ _ _ hx];rfl
  have hx1:wc.cell? ⟨w.heap.size,1,none⟩=some (.slice ba 0 bc):=by rw[Ad _ _ _ _ _ _ hx];rfl
  have hx2:wc.cell? ⟨w.heap.size,2,none⟩=some (.slice ia m ic):=by rw[Ad _ _ _ _ _ _ hx];rfl
  have HT:=ZQ ht;have HC:=ZQ hc;clear ht hc hx;go_wp2_with fail
  go_loopw [8,59] (λq i v=>∃k W':Nat,k<=m/\i= .int .i64 k/\q= .int .i64 (szs (its.take k):Nat)/\wks (its.take k) (d+1) (W+wx)=(W',0)/\Touch g w v/\v.heap[g]?=some (.cells #[.int .i64 W'] 168)) (λ_ i _=>m-(intOf i).toNat)
  case atStart=>exact⟨0,W+wx,by omega,rfl,by rw[BL,FM];rfl,by rw[BL,E1],HT.out,HC.out⟩
  case round=>
   obtain⟨k,W',hk,rfl,rfl,hws,ht,hc⟩:=hrel;have HWS:=ZQ hws;obtain⟨hW1,hW2,hW3⟩:=JU (Nat.succ_pos _) hW0 hws;generalize hq:szs (its.take k)=q at hW3;have HQ:=ZQ hq;clear hws hq;by_cases hlt:k<m
   ·have hk1:k<its.length:=(by have:=H3.out;omega);obtain⟨gi,off,y,hat⟩:=Eh H6.out k its[k] (Ac hk1);rw[AM]at hat
    have hb:Below w0.heap.size w0 wr:=Touch.below hbel ht hg (by have:=hbel.size;omega);obtain⟨rfl,a0,a1,a2,ali⟩:=hat
    have c0':=(hb.cell (p:=⟨gi,off+k*3,none⟩) (Af a0)).trans a0;have c1':=(hb.cell (p:=⟨gi,off+k*3+1,none⟩) (Af a1)).trans a1;have c2':=(hb.cell (p:=⟨gi,off+k*3+2,none⟩) (Af a2)).trans a2;clear a0 a1 a2;have ca0:=cell_alloc c0';have ca1:=cell_alloc c1';have ca2:=cell_alloc c2';have hki:(k:Int)<m:=(by omega);obtain⟨u,hu⟩:∃u,its[k]=u:=⟨_,rfl⟩;have hgt:its[k]?=some u:=(by rw[<-hu];exact Ac hk1);have HGT:=ZQ hgt;have HIU:=ZQ (HI.out u (by rw[<-hu];exact Bw hk1) y (d+1) W' g w0);rw[hu]at ali;have ALI:=ZQ ali;have hgr:=lt_of_get hc;have HB:=ZQ hb;have HT2:=ZQ ht;have HC2:=ZQ hc;obtain⟨ul,ub,ui⟩:=u;have y1:=(lies_eq.1 ali).1;have y2:=(lies_eq.1 ali).2.1;have hyl:Hid (y.l=ul):=y1;have AG:=ZQ y2;clear hgt hu ali y1 y2 hb ht hc;go_wp2_with fail;rw[show((d:Int)+1)=((d+1:Nat):Int)from by omega];have hcal:=HIU.out (wr.alloc (.cells #[.bool y.l, .slice y.ba y.bn y.bc, .slice y.ia y.m y.ic] 109)) ALI.out (HB.out.alloc HB.out.size _) hg ((Az _ _ _ hgr).trans HC2.out) hW2 hd7;refine hcal.mono ?_;clear hcal;rintro e w1⟨ht1,hres⟩;have ht2:Touch g w w1:=(HT2.out.trans (Touch.of_below ((Ak _ _).alloc (Aa _) _))).trans ht1;have hb1:Below w0.heap.size w0 w1:=Touch.below hbel ht2 hg (by have:=hbel.size;omega);have hyb:w1.heap[wr.heap.size]?=some (.cells #[.bool y.l, .slice y.ba y.bn y.bc, .slice y.ia y.m y.ic] 109):=(ht1.block _ (by simp) (by omega)).trans (Aj _ _);rcases hres with⟨hr0,rfl,hr2⟩|⟨hr0,rfl⟩
    ·have y0:w1.cell? ⟨wr.heap.size,0,none⟩=some (.bool y.l):=(by rw[Ad _ _ _ _ _ _ hyb];rfl);have y1:w1.cell? ⟨wr.heap.size,1,none⟩=some (.slice y.ba y.bn y.bc):=(by rw[Ad _ _ _ _ _ _ hyb];rfl);have y2:w1.cell? ⟨wr.heap.size,2,none⟩=some (.slice y.ia y.m y.ic):=(by rw[Ad _ _ _ _ _ _ hyb];rfl);obtain⟨z1,z2,z3⟩:=Lz (Nat.succ_pos _) hW2 hr0;have HM:=ZQ (Lx HGT.out HWS.out hr0);have hsz:sz (T.mk ul ub ui)=szOf ul ub (szb (T.mk ul ub ui)):=UC _;have hge:=KX ul ub (szb (T.mk ul ub ui));have HSM:=ZQ (UB HGT.out);rw[hsz]at z3 HSM;rw[HQ.out]at HSM;have HR2:=ZQ hr2;obtain⟨W'',hW''⟩:∃W'',(wk (T.mk ul ub ui) (d+1) W').1=W'':=⟨_,rfl⟩;obtain⟨nn,hnn0⟩:∃nn,szb (T.mk ul ub ui)=nn:=⟨_,rfl⟩;rw[hW'']at z1 z2 z3 HM HR2;rw[hnn0]at z3 hge HSM⊢;clear hW'' hnn0;have hnn:nn<1000000000:=(by omega);have HT3:=ZQ ht2;clear hr0 hsz hr2 hyb ht1 ht2;go_wp2_with fail;refine(L5 y.l y.ba y.bn y.bc y.ia y.m y.ic ub nn _ (AG.out.at hb1) hnn).mono ?_;rintro e w2⟨rfl,hb2⟩;rw[hyl.out];obtain⟨zz,hzz⟩:∃zz,szOf ul ub nn=zz:=⟨_,rfl⟩;rw[hzz]at z3 hge HSM⊢;clear hzz;have hq9:q+zz<9000000000:=(by omega);go_wp2_with fail;refine⟨⟨k+1,W'',by omega,by simp,?_,HM.out,HT3.out.trans (Touch.of_below hb2),Below.row hb2 HR2.out⟩,?_⟩
     ·rw[HSM.out];simp
     ·simp[intOf];omega
    ·have HFL:=ZQ (Ly HGT.out HWS.out hr0);have HR0:=ZQ hr0;obtain⟨er,her⟩:∃er,(wk (T.mk ul ub ui) (d+1) W').2=er:=⟨_,rfl⟩;have hee:((er:Int) !=0)=true:=(by rw[BT];rw[her]at hr0;omega);have HER:=ZQ her;have HT3:=ZQ ht2;rw[her];clear hr0 hyb ht1 ht2 her;go_wp2_with fail;go_ret2;refine⟨HT3.out, .inr ?_⟩;rw[HF.out,HFL.out,HER.out];exact⟨by rw[<-HER.out];exact HR0.out,rfl⟩
   ·have hkm:k=m:=(by omega);subst hkm;have hki:¬(k:Int)<k:=(by omega);have ht2:its.take k=its:=A8 (by have:=H3.out;omega);have hw2:=HWS.out;have hq2:=HQ.out;rw[ht2]at hw2 hq2;have HW2:=ZQ hw2;have HQ2:=ZQ hq2;have HT3:=ZQ ht;have HC3:=ZQ hc;clear ht2 hw2 hq2 ht hc;go_wp2_with fail;go_ret2;refine⟨HT3.out, .inl ?_⟩;rw[HF.out,HW2.out];refine⟨rfl,?_,HC3.out⟩;rw[show szb (T.mk true bs its)=q from by show bs.length+szs its=q;rw[HQ2.out,HL.out];exact AM _];rfl
theorem UH:∀t,∀(x:V)(d W g:Nat)(w0 w:World),Lies w0 t x->Below w0.heap.size w0 w->w0.heap.size<=g->w.heap[g]?=some (.cells #[.int .i64 W] 168)->W<=16777215->d<=8->
 Calls prog 126 #[.pointer (some ⟨g,0,none⟩), .agg #[.bool x.l, .slice x.ba x.bn x.bc, .slice x.ia x.m x.ic], .int .i64 d] w (BodyPost t d W g w):=by
 refine T.ind λl bs its ih x d W g w0 w hli hbel hg hcell hW hd=>?_;by_cases h1:(l=true/\d=8)∨wrongForm l bs its=true∨16777215<W+wt l bs d
 ·exact UG l bs its x d W g w0 w hli hbel hg hcell hW hd h1
 ·have h2:¬(l=true/\d=8):=λh=>h1 (.inl h);have h3:wrongForm l bs its=false:=by
   cases h:wrongForm l bs its with
   |false=>rfl
   |true=>exact absurd (.inr (.inl h)) h1
  have h4:W+wt l bs d<=16777215:=Nat.le_of_not_lt λh=>h1 (.inr (.inr h));cases l with
  |false=>exact ST bs its x d W g w0 w hli hbel hg hcell hW hd h2 h3 h4
  |true=>exact SU bs its x d W g w0 w hli hbel hg hcell hW hd h2 h3 h4 ih
theorem SV{t:T}{w:Nat}(hw:w<=16777215)(h:(wk t d w).2=0):szb t<1000000000:=by
 obtain⟨l,bs,its⟩:=t;obtain⟨_,h2,h3,h4⟩:=OD h;rw[h4]at h;obtain⟨b1,b2,b3⟩:=JU (its:=its) (d:=d+1) (w:=w+wt l bs d) (W:=(wks its (d+1) (w+wt l bs d)).1) (by omega) h3 (by rw[<-h]);show bs.length+szs its<_;have hf:=Fb h2;cases l with
 |true=>
  have:bs=[]:=by simpa using hf
  subst this;simp;omega
 |false=>
  have:bs.length<=wt false bs d:=by simp[wt];omega
  omega
def mP(t:T):Nat×Nat:=if(wk t 0 0).2≠0 then(0,(wk t 0 0).2)else if 16777215<szb t then(0,20)else(sz t,0)
theorem Kt(t:T)(x:V)(w:World)(hli:Lies w t x):
 Calls prog 89 #[.agg #[.bool x.l, .slice x.ba x.bn x.bc, .slice x.ia x.m x.ic]] w λe w'=>e= .returned (.tuple #[.int .i64 ((mP t).1:Nat), .int .i64 ((mP t).2:Nat)])/\Below w.heap.size w w':=by
 have HLI:=ZQ hli;obtain⟨m1,hm1⟩:∃m1,mP t=m1:=⟨_,rfl⟩;rw[hm1];have HM:=ZQ hm1;clear hli hm1;go_enter func89,ntmps89;go_wp2_with fail
 have hcal:=UH t x 0 0 (w.heap.size+1) w ((w.alloc (.cells #[.bool x.l, .slice x.ba x.bn x.bc, .slice x.ia x.m x.ic] 109)).alloc (.cells #[.int .i64 0] 168)) HLI.out (((Ak _ _).alloc (Aa _) _).alloc (by simp) _) (by omega)
  (by have:=Aj (w.alloc (.cells #[.bool x.l, .slice x.ba x.bn x.bc, .slice x.ia x.m x.ic] 109)) (.cells #[.int .i64 0] 168);rw[show(w.alloc (.cells #[.bool x.l, .slice x.ba x.bn x.bc, .slice x.ia x.m x.ic] 109)).heap.size=w.heap.size+1 from by simp]at this;exact this) (by omega) (by omega)
 rw[show((0:Nat):Int)=0 from rfl]at hcal;refine hcal.mono ?_;clear hcal;rintro e w1⟨ht1,hres⟩;have hsz:((w.alloc (.cells #[.bool x.l, .slice x.ba x.bn x.bc, .slice x.ia x.m x.ic] 109)).alloc (.cells #[.int .i64 0] 168)).heap.size=w.heap.size+1+1:=by simp
 have hyb:w1.heap[w.heap.size]?=some (.cells #[.bool x.l, .slice x.ba x.bn x.bc, .slice x.ia x.m x.ic] 109):=(ht1.block _ (by rw[hsz];omega) (by omega)).trans ((Az _ _ _ (by simp)).trans (Aj _ _));have hb0:Below w.heap.size w ((w.alloc (.cells #[.bool x.l, .slice x.ba x.bn x.bc, .slice x.ia x.m x.ic] 109)).alloc (.cells #[.int .i64 0] 168)):=((Ak _ _).alloc (Aa _) _).alloc (by simp) _;have hb1:Below w.heap.size w w1:=Touch.below hb0 ht1 (by omega) (by rw[hsz];omega);clear ht1 hsz hb0;obtain⟨ul,ub,ui⟩:=t;have hyl:Hid (x.l=ul):=(lies_eq.1 HLI.out).1;have AG:=ZQ ((lies_eq.1 HLI.out).2.1.at hb1);have HMM:=HM.out;unfold mP at HMM;rcases hres with⟨hr0,rfl,hr2⟩|⟨hr0,rfl⟩
 ·have y0:w1.cell? ⟨w.heap.size,0,none⟩=some (.bool x.l):=by rw[Ad _ _ _ _ _ _ hyb];rfl
  have y1:w1.cell? ⟨w.heap.size,1,none⟩=some (.slice x.ba x.bn x.bc):=by rw[Ad _ _ _ _ _ _ hyb];rfl
  have y2:w1.cell? ⟨w.heap.size,2,none⟩=some (.slice x.ia x.m x.ic):=by rw[Ad _ _ _ _ _ _ hyb];rfl
  rw[Ae (by rw[hr0];simp)]at HMM;have hnn:=SV (AD _) hr0;rw[UC]at HMM;obtain⟨nn,hnn0⟩:∃nn,szb (T.mk ul ub ui)=nn:=⟨_,rfl⟩;rw[hnn0]at hnn HMM⊢;have HB1:=ZQ hb1;clear hr0 hr2 hyb hnn0 hb1;by_cases hlong:16777215<nn
  ·rw[Ai hlong]at HMM;have hl2:(16777215:Int)<nn:=(by omega);have HM2:=ZQ HMM;clear HMM HM;go_wp2_with fail;go_ret2;refine⟨?_,HB1.out⟩;rw[<-HM2.out];rfl
  ·rw[Ae hlong]at HMM;have hl2:¬(16777215:Int)<nn:=(by omega);have HM2:=ZQ HMM;clear HMM HM;go_wp2_with fail;refine(L5 x.l x.ba x.bn x.bc x.ia x.m x.ic ub nn _ AG.out hnn).mono ?_;rintro e w2⟨rfl,hb2⟩;rw[hyl.out];go_wp2_with fail;go_ret2;refine⟨?_,HB1.out.trans (hb2.mono HB1.out.size)⟩;rw[<-HM2.out];rfl
 ·rw[Ai hr0]at HMM;obtain⟨er,her⟩:∃er,(wk (T.mk ul ub ui) 0 0).2=er:=⟨_,rfl⟩;have hee:((er:Int) !=0)=true:=by rw[BT];rw[her]at hr0;omega
  rw[her]at HMM⊢;have HM2:=ZQ HMM;have HB1:=ZQ hb1;clear hr0 hyb her HMM HM hb1;go_wp2_with fail;go_ret2;refine⟨?_,HB1.out⟩;rw[<-HM2.out];rfl
def Row(g:Nat)(w:World)(R:List Int):Prop:=w.heap[g]?=some (.cells (R.map (Value.int .u8)).toArray 5)
theorem Row.set{R:List Int}(h:Row g w R)(i:Nat)(x:Int):Row g (w.setCell ⟨g,i,none⟩ (.int .u8 x)) (R.set i x):=by
 have:=AX w g i _ 5 (.int .u8 x) h;unfold Row;rw[this];congr 2;rw[DJ,List.map_set]
theorem Row.cell{R:List Int}(h:Row g w R){i:Nat}(hi:i<R.length):w.cell? ⟨g,i,none⟩=some (.int .u8 (R.getD i 0)):=by
 rw[Ad _ _ _ _ _ _ h];simp[Ac hi]
theorem Row.frozen{R:List Int}(h:Row g w R)(i:Nat):w.frozen? ⟨g,i,none⟩=false:=AY _ _ _ _ _ h
theorem NJ(R tl:List Int)(a e:Nat)(v:Int)(ha:a+1<=R.length):(R.take (a+1)++tl++R.drop e).set a v=R.take a++(v::tl)++R.drop e:=by
 have h1:R.take (a+1)=R.take a++[R[a]]:=by rw[C4,Ac (by omega)];rfl
 have h2:(R.take a).length=a:=by rw[Am];omega
 rw[h1,A9,A9,DM _ _ (by omega),h2,Cc];simp
theorem Ku(g at_ S n b:Nat)(R:List Int)(w:World)(hR:Row g w R)(hS:R.length=S)(hat:at_<=S)(hS2:S<=4611686018427387904)(hn:n<16777216)(hb:b=128∨b=192)(hfit:(hd b n).length<=at_):
 Calls prog 129 #[.slice (some ⟨g,0,none⟩) S S, .int .i64 at_, .int .u8 b, .int .i64 n] w λe w'=>e= .returned (.int .i64 (at_-(hd b n).length:Nat))/\Row g w' (R.take (at_-(hd b n).length)++hd b n++R.drop at_)/\Touch g w w':=by
 have hlen:=hd_len b n;have hb2:b<=192:=by omega
 by_cases h5:n<=55
 ·have e1:hd b n=[((b+n:Nat):Int)]:=by rw[hd,Ai h5]
  rw[e1]at hfit⊢;simp only[Cp]at hfit⊢;obtain⟨a,rfl⟩:∃a,at_=a+1:=⟨at_-1,by omega⟩;have hcell:=hR.cell (i:=a) (by omega);have hfz:=hR.frozen a;have hset:=NJ R [] a (a+1) ((b+n:Nat):Int) (by omega);rw[A4,Be]at hset;have hrow:=hR.set a ((b+n:Nat):Int);rw[hset]at hrow;have HR:=ZQ hrow;have h55:(n:Int)<=55:=by omega
  clear hset hrow hR hlen e1 hfit hb;go_enter func129,ntmps129;go_wp2_with fail;go_ret;exact⟨by simp,by simpa using HR.out,Touch.setCell _ _ _ _⟩
 ·have e1:hd b n=((b+55+nb n:Nat):Int)::be n:=by rw[hd,Ae h5]
  have hnb:=GO hn;have hnb1:=Yi (n:=n) (by omega);rw[Ai (by omega)]at hlen;rw[e1]at hlen hfit⊢;rw[hlen]at hfit⊢;obtain⟨a0,rfl⟩:∃a0,at_=a0+(1+nb n):=⟨at_-(1+nb n),by omega⟩;rw[show a0+(1+nb n)-(1+nb n)=a0 from by omega];obtain⟨nbn,hnbn⟩:∃k,nb n=k:=⟨_,rfl⟩;obtain⟨bn,hbn⟩:∃k,be n=k:=⟨_,rfl⟩;rw[hnbn]at hnb hnb1 hat⊢;rw[hbn];have HNB:=ZQ hnbn;have HBE:=ZQ hbn;have HR:=ZQ hR;have h55:¬(n:Int)<=55:=by omega
  clear hR hlen e1 hfit hb hnbn hbn;go_enter func129,ntmps129;go_wp2_with fail
  go_loopw [1,9,10] (λp c q v=>∃(a k r:Nat)(tl:List Int),p= .int .i64 a/\c= .int .i64 k/\q= .int .i64 r/\r<=n/\a=a0+1+nb r/\k+nb r=nbn/\bn=be r++tl/\Row g v (R.take a++tl++R.drop (a0+(1+nbn)))/\Touch g w v) (λ_ _ q _=>(intOf q).toNat)
  case atStart=>exact⟨a0+(1+nbn),0,n,[],rfl,rfl,rfl,Aa _,by rw[HNB.out];omega,by rw[HNB.out];omega,by rw[A4];exact HBE.out.symm,by rw[A4,Be];exact HR.out,Touch.refl _ _⟩
  case round=>
   obtain⟨a,k,r,tl,rfl,rfl,rfl,hrn,ha,hk,hbe,hrow,ht⟩:=hrel;by_cases h0:r=0
   ·subst h0;rw[Iw]at ha hk;rw[Gt,AL]at hbe;have ha':a=a0+1:=(by omega);have hk':k=nbn:=(by omega);subst ha' hk' hbe;have htl:(R.take (a0+1)).length=a0+1:=(by rw[Am];omega);have hcell:=hrow.cell (i:=a0) (by simp;omega);have hfz:=hrow.frozen a0;have hrow2:=hrow.set a0 ((b+55+k:Nat):Int);rw[NJ _ _ _ _ _ (by omega)]at hrow2;have HRW:=ZQ hrow2;have HT:=ZQ ht;clear hrow hrow2 ht htl ha hk;go_wp2_with fail;go_ret;exact⟨by simp,by simpa using HRW.out,HT.out.trans (Touch.setCell _ _ _ _)⟩
   ·rw[H9 (by omega)]at ha hk;rw[Gc (by omega)]at hbe;obtain⟨a',rfl⟩:∃a',a=a'+1:=⟨a-1,by omega⟩;have hr0:(0:Int)<r:=(by omega);have htl:(R.take (a'+1)).length=a'+1:=(by rw[Am];omega);have hcell:=hrow.cell (i:=a') (by simp;omega);have hfz:=hrow.frozen a';have hrow2:=hrow.set a' ((r%256:Nat):Int);rw[NJ _ _ _ _ _ (by omega)]at hrow2;have HRW:=ZQ hrow2;have HT:=ZQ ht;have HBB:=ZQ hbe;have HAA:=ZQ ha;have HKK:=ZQ hk;have hka:a'+1<=S:=(by omega);have hkb:k<10:=(by omega);have hrb:r<16777216:=(by omega);clear hrow hrow2 ht htl ha hk hbe;go_wp2_with fail;refine⟨⟨a',k+1,r/256,((r%256:Nat):Int)::tl,rfl,by simp,by simp,by omega,by have:=HAA.out;omega,by have:=HKK.out;omega,by rw[HBB.out,A9];rfl,by simpa using HRW.out,HT.out.trans (Touch.setCell _ _ _ _)⟩,?_⟩;simp[intOf];omega
theorem L6{o dl dc bn bc:Nat}{ba da:Option Addr}{bs R:List Int}(hR:Row g w R)(hA:Ag w ba bn bc bs)(hdl:dl=bn)(hfit:o+bn<=R.length)(hda:0<bn->da=some ⟨g,o,none⟩):
 ∃w',(∀ty,(Builtin.copy_ #[23,23] ty #[.slice da dl dc, .slice ba bn bc]).run prog w= .ok (.int .i64 bn) w')/\Row g w' (R.take o++bs++R.drop (o+bn))/\Touch g w w':=by
 subst hdl;have hl:=hA.l;by_cases h0:dl=0
 ·subst h0;have hb:bs=[]:=List.eq_nil_of_length_eq_zero hl;subst hb;refine⟨w,λty=>?_,by rw[List.append_nil,Nat.add_zero,List.take_append_drop];exact hR,Touch.refl _ _⟩;rw[run_copy_none (P:=prog) w 23 23 ty 5 _ _ _ _ _ _ underlying23 (by kernel_rfl) (by simp)];rfl
 ·obtain⟨gb,off,rfl,h1,h2,h3⟩:=ag_head hA (by omega);have hda:=hda (by omega);subst hda;refine⟨_,λty=>?_,?_,Touch.setRow g w ((R.take o++bs++R.drop (o+dl)).map (Value.int .u8)).toArray⟩
  ·rw[run_copy_row (P:=prog) w 23 23 ty 5 g o dl dc ⟨gb,off,none⟩ dl bc _ 5 (bs.map (Value.int .u8)) underlying23 (by kernel_rfl) hR (by simp[hl]) ?_ (by simp;omega) (B8_one2 _)]
   ·congr 1
    ·simp[goInt,hl]
    ·congr 2;simp[List.map_append,List.map_take,List.map_drop,hl]
   ·intro j v hv;have hj:j<dl:=(by have:=(List.getElem?_eq_some_iff.1 hv).1;simpa[hl]using this);rw[BO,h3 j hj,<-hv];simp[List.getElem?_eq_getElem (show j<bs.length by omega)]
  ·exact setRow_heap _ _ _ _ _ _ hR
theorem step_copy{P:Program}{ops:Array Oper}{o:Oper}{a:Act}{w:World}{K:Act->World->Prop}{Q:Exit->Act->World->Prop}{E:Prop}
 (hg:o.guard=none) (d x:Operand) (dT sT:TypeId) (WC:o.op=Op.call {callee:=Callee.builtin Builtin.copy,args:=#[d,x],argTypes:=#[dT,sT]})
 (v u:Value) (hd:a.eval d=v) (hx:a.eval x=u) {v':Value} {w':World} (hr:(Builtin.copy_ #[dT,sT] o.type #[v,u]).run P w= .ok v' w') (hK:K (a.put o.dst v') w'):
 if Region.wanted o (yielded ops a.tmps)=true then Oper.wp P o a w K Q else E:=by
 have hw:Region.wanted o (yielded ops a.tmps)=true:=by simp[Region.wanted,hg]
 rw[Ai hw];unfold Oper.wp;simp[execOp,WC,resolve,invoke,builtin,hd,hx,hr,Result.andThen];exact hK
theorem OG{bs:List Int}:enc (.mk false bs [])=if bare false bs then bs else hd 128 bs.length++bs:=by rw[Ew,Cr,A4];rfl
theorem UI(bs:List Int)(x:V)(g S fin:Nat)(R:List Int)(w0 w:World)(hli:Lies w0 (.mk false bs []) x)(hbel:Below w0.heap.size w0 w)(hg:w0.heap.size<=g)(hR:Row g w R)(hS:R.length=S)(hfin:fin<=S)(hS2:S<=4611686018427387904)(hbody:bs.length<16777216)(hfit:(enc (.mk false bs [])).length<=fin):
 Calls prog 90 #[.slice (some ⟨g,0,none⟩) S S, .int .i64 fin, .agg #[.bool x.l, .slice x.ba x.bn x.bc, .slice x.ia x.m x.ic]] w λe w'=>e= .returned (.int .i64 (fin-(enc (.mk false bs [])).length:Nat))/\Row g w' (R.take (fin-(enc (.mk false bs [])).length)++enc (.mk false bs [])++R.drop fin)/\Touch g w w':=by
 obtain⟨l',ba,bn,bc,ia,m,ic⟩:=x;obtain⟨h1,h2,h3,h4,h5,⟨h7,h8⟩,h6⟩:=lies_eq.1 hli;simp only at h1 h2 h3 h4 h5 h6 h7 h8⊢;subst h1;simp only[CB]at h3;have hl:=h2.l;have hgl:=lt_of_get hR;have hA:=h2.at hbel;have hlen:bs.length<=(enc (.mk false bs [])).length:=by rw[OG];split<;>simp
 obtain⟨a,ha⟩:∃a,fin=a+bn:=⟨fin-bn,by omega⟩;subst ha;have hR1:Row g (w.alloc (.cells #[.bool false, .slice ba bn bc, .slice ia m ic] 109)).drew R:=(Az _ _ _ hgl).trans hR;have hbw:Below w.heap.size w (w.alloc (.cells #[.bool false, .slice ba bn bc, .slice ia m ic] 109)).drew:=((Ak _ _).alloc (Aa _) _).drew;obtain⟨w1,hrun,hrow,ht⟩:=L6 (o:=a) (dl:=((a:Int)+bn).toNat-a) (dc:=S-a) (da:=if S=a then some ⟨g,0,none⟩else some ⟨g,a,none⟩) hR1 (hA.at hbw) (by omega) (by omega) (λh=>Ae (by omega));have hA1:Ag w1 ba bn bc bs:=h2.at (Touch.below (hbel.alloc hbel.size _).drew ht hg (by have:=hbel.size;simp;omega));have hx:w1.heap[w.heap.size]?=some (.cells #[.bool false, .slice ba bn bc, .slice ia m ic] 109):=(ht.block _ (by simp) (by omega)).trans (Aj _ _);have y0:w1.cell? ⟨w.heap.size,0,none⟩=some (.bool false):=by rw[Ad _ _ _ _ _ _ hx];rfl
 have y1:w1.cell? ⟨w.heap.size,1,none⟩=some (.slice ba bn bc):=by rw[Ad _ _ _ _ _ _ hx];rfl
 have y2:w1.cell? ⟨w.heap.size,2,none⟩=some (.slice ia m ic):=by rw[Ad _ _ _ _ _ _ hx];rfl
 have hT:Touch g w w1:=(Touch.of_below hbw).trans ht;have HRUN:=ZQ hrun;have hab:(a:Int)<=(a:Int)+bn:=by omega
 have hbnS:(a:Int)+bn<=S:=by omega
 obtain⟨en,hen⟩:∃en,enc (.mk false bs [])=en:=⟨_,rfl⟩;rw[hen]at hfit⊢;rw[OG]at hen;have HEN:=ZQ hen;have HROW:=ZQ hrow;have HA1:=ZQ hA1;have HT:=ZQ hT;have HX:=ZQ hx;have HL:=ZQ hl;clear hrun hrow ht hA1 hx hT hR1 hbw hA hli h2 h3 h6 hR hen hl hlen;go_enter func90,ntmps90;go_wp2_with fail
 go_cut [0] (λo v=>o= .slice (some ⟨g,0,none⟩) S S/\v=w1)
 case first=>
  go_region_law (refine step_copy rfl _ _ _ _ rfl _ _ rfl rfl (HRUN.out _) ?_)
  all_goals
   go_wp2_with fail
   all_goals
    go_meet
    case rel=>exact⟨by simp[*],rfl⟩
 case rest=>
 obtain⟨rfl,rfl⟩:=hcut;go_wp2_with fail;refine(OF false ba bn bc ia m ic bs _ HA1.out).mono ?_;rintro e w2⟨rfl,hb2⟩;have hT2:Touch g w w2:=HT.out.trans (Touch.of_below hb2);have hrow2:Row g w2 (R.take a++bs++R.drop (a+bn)):=Below.row hb2 HROW.out;have hx2:=Below.row hb2 HX.out;by_cases hbr:bare false bs=true
 ·have e1:=HEN.out;rw[Ai hbr]at e1;subst e1;rw[hbr];have HR2:=ZQ hrow2;have HT2:=ZQ hT2;clear hrow2 hT2 hx2 y0 y1 y2;go_wp2_with fail;go_ret;rw[HL.out,show a+bn-bn=a from by omega];exact⟨rfl,HR2.out,HT2.out⟩
 ·have e1:=HEN.out;rw[Ae hbr]at e1;have hbr2:bare false bs=false:=by simpa using hbr
  rw[hbr2];have hle:en.length=(hd 128 bn).length+bn:=by rw[<-e1,Ab,HL.out]
  have hRl:(R.take a++bs++R.drop (a+bn)).length=S:=by simp[HL.out];omega
  have y0:w2.cell? ⟨w.heap.size,0,none⟩=some (.bool false):=by rw[Ad _ _ _ _ _ _ hx2];rfl
  have y1:w2.cell? ⟨w.heap.size,1,none⟩=some (.slice ba bn bc):=by rw[Ad _ _ _ _ _ _ hx2];rfl
  have hcal:=Ku g a S bn 128 (R.take a++bs++R.drop (a+bn)) w2 hrow2 hRl (by omega) hS2 (by rw[HL.out]at hbody;exact hbody) (.inl rfl) (by omega);rw[show((128:Nat):Int)=128 from rfl]at hcal;have HCAL:=ZQ hcal;have HT2:=ZQ hT2;have HE1:=ZQ e1;have HLE:=ZQ hle;clear hcal hRl hx2 hrow2 hT2 e1 hle;go_wp2_with fail;refine HCAL.out.mono ?_;rintro e w3⟨rfl,hr3,ht3⟩;have hle:=HLE.out;have e1:=HE1.out;have hta:(R.take a).length=a:=by rw[Am];omega
  obtain⟨h,hh⟩:∃h,(hd 128 bn).length=h:=⟨_,rfl⟩;rw[hh]at hr3 hle⊢;have hfinal:List.take (a-h) (R.take a++bs++R.drop (a+bn))++hd 128 bn++List.drop a (R.take a++bs++R.drop (a+bn))=R.take (a+bn-en.length)++en++R.drop (a+bn):=by
   rw[<-e1,HL.out,Ab,hh,HL.out,show a+bn-(h+bn)=a-h from by omega,A9 (R.take a),Cs (by omega),E8,CP (by omega),Ct (by omega),List.drop_take_self];simp
  rw[hfinal]at hr3;have hret:a-h=a+bn-en.length:=by omega
  rw[hret];have HR3:=ZQ hr3;have HT3:=ZQ (HT2.out.trans ht3);clear hr3 ht3 hfinal hret hle e1 hta hh;go_wp2_with fail;go_ret;exact⟨rfl,HR3.out,HT3.out⟩
theorem UJ{its:List T}:enc (.mk true [] its)=hd 192 (encs its).length++encs its:=by rw[Ew,AL,Ae (by simp[bare])];rfl
theorem Jn{its:List T}(h:its[j]?=some u):encs (its.drop j)=enc u++encs (its.drop (j+1)):=by
 obtain⟨hj,e⟩:=Aw.1 h;rw[Bz hj,C7,e]
theorem L7(its:List T)(j:Nat):encs its=encs (its.take j)++encs (its.drop j):=by rw[<-EZ,Be]
def PutSaid(t:T):Prop:=∀(x:V)(g S fin:Nat)(R:List Int)(w0 w:World),Lies w0 t x->Below w0.heap.size w0 w->w0.heap.size<=g->Row g w R->R.length=S->fin<=S->S<=4611686018427387904->(bodyOf t).length<16777216->(enc t).length<=fin->
 Calls prog 90 #[.slice (some ⟨g,0,none⟩) S S, .int .i64 fin, .agg #[.bool x.l, .slice x.ba x.bn x.bc, .slice x.ia x.m x.ic]] w λe w'=>e= .returned (.int .i64 (fin-(enc t).length:Nat))/\Row g w' (R.take (fin-(enc t).length)++enc t++R.drop fin)/\Touch g w w'
theorem WU{its:List T}(h:its[j]?=some u):(enc u).length+(encs (its.drop (j+1))).length<=(encs its).length:=by
 have:=Au List.length (L7 its j);rw[Jn h]at this;simp only[Ab]at this;omega
theorem UK(t:T):(bodyOf t).length<=(enc t).length:=by
 cases t with
 |mk l bs its=>
  rw[Ew];show(bs++encs its).length<=_;split<;>simp
theorem RK(R E F:List Int)(a len fin:Nat)(ha:a<=R.length)(hl:E.length=len)(hla:len<=a):List.take (a-len) (R.take a++F++R.drop fin)++E++List.drop a (R.take a++F++R.drop fin)=R.take (a-len)++(E++F)++R.drop fin:=by
 have hta:(R.take a).length=a:=by rw[Am];omega
 rw[A9 (R.take a),Cs (by omega),E8,CP (by omega),Ct (by omega),List.drop_take_self];simp
theorem UL(its:List T)(ih:∀u∈its,form u=true->PutSaid u)(hform:forms its=true):PutSaid (.mk true [] its):=by
 intro x g S fin R w0 w hli hbel hg hR hS hfin hS2 hbody hfit;obtain⟨l',ba,bn,bc,ia,m,ic⟩:=x;obtain⟨h1,h2,h3,h4,h5,⟨h7,h8⟩,h6⟩:=lies_eq.1 hli;simp only at h1 h2 h3 h4 h5 h6 h7 h8⊢;subst h1;have hbody2:(encs its).length<16777216:=by simpa[bodyOf,T.bs,T.its]using hbody
 obtain⟨en,hen⟩:∃en,enc (.mk true [] its)=en:=⟨_,rfl⟩;rw[hen]at hfit⊢;rw[UJ]at hen;have hle:en.length=(hd 192 (encs its).length).length+(encs its).length:=by rw[<-hen,Ab]
 have hgl:=lt_of_get hR;have HR:=ZQ hR;have H3:=ZQ h3;have H6:=ZQ h6;have HI:=ZQ ih;have HF:=ZQ (Du hform);have HEN:=ZQ hen;have HLE:=ZQ hle;have hic:ic<=2^63-1:=h5;clear hR h3 h6 ih hen hle hbody hli h2 hform;go_enter func90,ntmps90;go_wp2_with fail;have hR1:Row g (w.alloc (.cells #[.bool true, .slice ba bn bc, .slice ia m ic] 109)) R:=(Az _ _ _ hgl).trans HR.out;have HR1:=ZQ hR1;clear hR1
 go_loopw [8,9] (λp i v=>∃k a:Nat,k<=m/\p= .int .i64 a/\i= .int .i64 ((k:Int)-1)/\a+(encs (its.drop k)).length=fin/\Row g v (R.take a++encs (its.drop k)++R.drop fin)/\Touch g (w.alloc (.cells #[.bool true, .slice ba bn bc, .slice ia m ic] 109)) v) (λ_ i _=>(intOf i+1).toNat)
 case atStart=>exact⟨m,fin,Aa _,rfl,rfl,by rw[Bq (by have:=H3.out;omega),Cr];rfl,by rw[Bq (by have:=H3.out;omega),Cr,A4,Be];exact HR1.out,Touch.refl _ _⟩
 case round=>
  obtain⟨k,a,hk,rfl,rfl,ha,hrow,ht⟩:=hrel;have hx:wr.heap[w.heap.size]?=some (.cells #[.bool true, .slice ba bn bc, .slice ia m ic] 109):=(ht.block _ (by simp) (by omega)).trans (Aj _ _);have y0:wr.cell? ⟨w.heap.size,0,none⟩=some (.bool true):=by rw[Ad _ _ _ _ _ _ hx];rfl
  have y1:wr.cell? ⟨w.heap.size,1,none⟩=some (.slice ba bn bc):=by rw[Ad _ _ _ _ _ _ hx];rfl
  have y2:wr.cell? ⟨w.heap.size,2,none⟩=some (.slice ia m ic):=by rw[Ad _ _ _ _ _ _ hx];rfl
  clear hx;cases k with
  |succ j=>
   have hj:j<its.length:=(by have:=H3.out;omega);obtain⟨u,hu⟩:∃u,its[j]?=some u:=⟨_,Ac hj⟩;have hmem:u∈its:=A6 hu;obtain⟨gi,off,y,hat⟩:=Eh H6.out j u hu;rw[AM]at hat
   have hb:Below w0.heap.size w0 wr:=Touch.below (hbel.alloc hbel.size _) ht hg (by have:=hbel.size;simp;omega);obtain⟨rfl,a0,a1,a2,ali⟩:=hat
   have c0':=(hb.cell (p:=⟨gi,off+j*3,none⟩) (Af a0)).trans a0;have c1':=(hb.cell (p:=⟨gi,off+j*3+1,none⟩) (Af a1)).trans a1;have c2':=(hb.cell (p:=⟨gi,off+j*3+2,none⟩) (Af a2)).trans a2;have hbl:=WU hu;have henc:(enc u).length<=a:=(by have:=Au List.length (L7 its j);rw[Jn hu]at this;simp only[Ab]at this;have:=HLE.out;omega);have haS:a<=R.length:=(by omega);have hRl:(R.take a++encs (its.drop (j+1))++R.drop fin).length=S:=(by simp;omega);have hcal:=HI.out u hmem (HF.out u hmem) y g S a _ w0 wr ali hb hg hrow hRl (by omega) hS2 (by have:=UK u;omega) henc;rw[RK R (enc u) _ a _ fin haS rfl henc,<-Jn hu]at hcal;have hdl:a-(enc u).length+(encs (its.drop j)).length=fin:=(by rw[Jn hu,Ab];omega);have HCAL:=ZQ hcal;have HDL:=ZQ hdl;have HT:=ZQ ht;rw[show(((j+1:Nat):Int)-1)=(j:Int)from by omega];have hj0:(0:Int)<=j:=(by omega);have hjm:(j:Int)<m:=(by omega);have hjm2:j<m:=(by omega);clear hcal hdl ht hrow a0 a1 a2 ali hb hbl hRl ha;go_wp2_with fail;refine HCAL.out.mono ?_;rintro e w1⟨rfl,hr1,ht1⟩;have HR2:=ZQ hr1;have HT2:=ZQ (HT.out.trans ht1);clear hr1 ht1;go_wp2_with fail;refine⟨⟨j,a-(enc u).length,by omega,rfl,rfl,HDL.out,HR2.out,HT2.out⟩,?_⟩;simp[intOf]
  |zero=>
   rw[Cw]at ha hrow;have hle:=HLE.out;have hRl:(R.take a++encs its++R.drop fin).length=S:=(by simp;omega);have hcal:=Ku g a S (encs its).length 192 _ wr hrow hRl (by omega) hS2 hbody2 (.inr rfl) (by omega);rw[RK R _ _ a _ fin (by omega) rfl (by omega),HEN.out,show a-(hd 192 (encs its).length).length=fin-en.length from by omega]at hcal;rw[show((192:Nat):Int)=192 from rfl]at hcal;have hfa:fin=a+(encs its).length:=ha.symm;obtain⟨nn,hnn⟩:∃nn,(encs its).length=nn:=⟨_,rfl⟩;rw[hnn]at hcal hfa hbody2;have HCAL:=ZQ hcal;have HT:=ZQ ht;have HFA:=ZQ hfa;have hfi:(fin:Int)-a=nn:=(by omega);have HFI:=ZQ hfi;clear hcal ht hrow hle ha hRl hnn hfa hfi;rw[show(((0:Nat):Int)-1)=-1 from rfl];have haf:(a:Int)<=fin:=(by have:=HFA.out;omega);have hff:fin<9223372036854775807:=(by omega);go_wp2_with fail;rw[HFI.out];refine HCAL.out.mono ?_;rintro e w1⟨rfl,hr1,ht1⟩;have HR2:=ZQ hr1;have HT2:=ZQ ((Touch.of_below ((Ak _ _).alloc (Aa _) _)).trans (HT.out.trans ht1));clear hr1 ht1;go_wp2_with fail;go_ret;exact⟨rfl,HR2.out,HT2.out⟩
theorem WV:∀t,form t=true->PutSaid t:=by
 refine T.ind λl bs its ih h=>?_;cases l with
 |false=>
  have:=Eu h;subst this;intro x g S fin R w0 w hli hbel hg hR hS hfin hS2 hbody hfit;exact UI bs x g S fin R w0 w hli hbel hg hR hS hfin hS2 (by simpa[bodyOf,T.bs,T.its,Cr]using hbody) hfit
 |true=>
  obtain⟨h1,h2⟩:=Fa h;subst h1;exact UL its ih h2
def encP(t:T):List Int×Nat:=if(mP t).2=0 then(enc t,0)else([],(mP t).2)
theorem Yk{t:T}(h:(mP t).2=0):(wk t 0 0).2=0/\szb t<=16777215/\(mP t).1=sz t:=by
 unfold mP at*;by_cases h1:(wk t 0 0).2=0
 ·rw[Ae (by rw[h1];simp)]at h⊢;by_cases h2:16777215<szb t
  ·rw[Ai h2]at h;cases h
  ·rw[Ae h2];exact⟨h1,by omega,rfl⟩
 ·rw[Ai h1]at h;exact absurd h h1
theorem MI(n:Nat):∀x∈be n,0<=x/\x<256:=by
 induction n using Nat.strongRecOn with
 |_ n ih=>
  by_cases h:n=0
  ·subst h;rw[Gt];intro x hx;cases hx
  ·rw[Gc (by omega)];intro x hx;rcases Bc.1 hx with hx|hx
   ·exact ih _ (Es (by omega) (by decide)) x hx
   ·simp at hx;omega
theorem SX{l:Bool}(hn:n<16777216):∀x∈hd (baseOf l) n,0<=x/\x<256:=by
 have hb:baseOf l<=192:=by cases l<;>decide
 intro x hx;unfold hd at hx;split at hx
 ·simp at hx;omega
 ·rcases AP.1 hx with rfl|hx
  ·have:=GO hn;omega
  ·exact MI n x hx
theorem OH{its:List T}(ih:∀t∈its,byt t->(bodyOf t).length<16777216->∀x∈enc t,0<=x/\x<256):byts its->(encs its).length<16777216->∀x∈encs its,0<=x/\x<256:=by
 induction its with
 |nil=>intro _ _ x hx;rw[Cr]at hx;cases hx
 |cons t r ihr=>
  intro hb hl x hx;obtain⟨h1,h2⟩:=(MG t r).1 hb;rw[C7]at hx hl;rw[Ab]at hl;rcases Bc.1 hx with hx|hx
  ·exact ih t (BY ..) h1 (by have:=UK t;omega) x hx
  ·exact ihr (λu hu=>ih u (AN _ hu)) h2 (by omega) x hx
theorem Qk:∀t,byt t->(bodyOf t).length<16777216->∀x∈enc t,0<=x/\x<256:=by
 refine T.ind λl bs its ih hb hl x hx=>?_;obtain⟨h1,h2⟩:=(U7 l bs its).1 hb;have hl2:(bs++encs its).length<16777216:=hl;have hbody:∀x∈bs++encs its,0<=x/\x<256:=KR h1 (OH ih h2 (by rw[Ab]at hl2;omega));rw[Ew]at hx;split at hx
 ·exact hbody x hx
 ·rcases Bc.1 hx with hx|hx
  ·exact SX hl2 x hx
  ·exact hbody x hx
theorem Jo{t:T}(h:(mP t).2=0):(mP t).1=(enc t).length/\(bodyOf t).length<16777216/\form t=true:=by
 obtain⟨h1,h2,h3⟩:=Yk h;have hf:=Jk t 0 0 h1;rw[h3,U9 t hf,<-Jj hf];exact⟨rfl,by omega,hf⟩
theorem L8{t:T}(hb:(bodyOf t).length<16777216):(enc t).length<=16777220:=by
 obtain⟨l,bs,its⟩:=t;have hb2:(bs++encs its).length<16777216:=hb;rw[Ew];split
 ·omega
 ·rw[Ab,hd_len];have:=GO hb2;split<;>omega
theorem made_bytes(n:Nat):madeCells #[Value.int .u8 0] n=((List.replicate n (0:Int)).map (Value.int .u8)).toArray:=by
 apply Array.ext';rw[toList_madeCells_one];simp
theorem row_ag{bs:List Int}(h:Row g w bs)(hl:bs.length=n)(hb:∀x∈bs,0<=x/\x<256)(hn:n<=9223372036854775807):Ag w (some ⟨g,0,none⟩) n n bs:=by
 refine⟨?_,(λh=>by cases h),hl,hb⟩;by_cases h0:n=0
 ·exact .inl ⟨h0,A3 (by omega)⟩
 ·exact .inr ⟨g,0,rfl,hl,by omega,Aa _,by unfold maxLen;omega,λj hj=>by rw[AM];exact h.cell hj⟩
theorem info5b:(prog.info? 5).map (λi=>(i.zero,i.size,i.bytes))=some (some (.int .u8 0),1,1):=by kernel_rfl
end Go.Proofs.YtefhepcplempkaaGreat
namespace Go.Proofs.YtefhepcplempkaaGreat
variable {deep : Bool} {b : List Int} {d n : Nat}
theorem UM{P:List Int->Prop}(h0:P [])(h1:∀r x,P r->P (r++[x]))(l:List Int):P l:=by
 have:∀m:List Int,P m.reverse:=by
  intro m
  induction m with
  |nil=>exact h0
  |cons x r ih=>rw[List.reverse_cons];exact h1 _ _ ih
 have:=this l.reverse;rwa [List.reverse_reverse]at this
theorem YA(s:List Int):(∀x∈s,0<=x/\x<256)->s.headD 0≠0->be (val s)=s:=by
 induction s using UM with
 |h0=>intro _ h;exact absurd rfl h
 |h1 r x ih=>
  intro h hh;have hx:=h x (by simp);rw[Jl];cases r with
  |nil=>
   have hx2:x≠0:=hh;rw[show val ([]:List Int)=0 from rfl,Gc (by omega),show(0*256+x.toNat)/256=0 from by omega,Gt];simp;omega
  |cons y r=>
   have h1:=ih (λz hz=>h z (Dp _ hz)) hh;have h2:0<val (y::r):=by
    rcases Ej (val (y::r))with h0|h0
    ·rw[h0,Gt]at h1;cases h1
    ·exact h0
   rw[Gc (by omega),show(val (y::r)*256+x.toNat)/256=val (y::r)from by omega,h1,show(((val (y::r)*256+x.toNat)%256:Nat):Int)=x from by omega]
theorem SY{f t:Nat}(hb:∀x∈b,0<=x/\x<256)(h:hdr deep b= .ok f t):
 (b.headD 0<128/\f=0/\t=1/\0<b.length)∨(128<=b.headD 0/\1<=f/\f<=t/\t<=b.length/\t-f<=16777215/\b.take f=hd (if 192<=b.headD 0 then 192 else 128) (t-f)/\(192<=b.headD 0->deep=false)/\(f=1↔t-f<=55)):=by
 have hok:=L3 h;unfold hdr at h;split at h
 ·cases h
 ·rename_i c r;have hc:=hb c (by simp);split at h
  ·cases h
  ·rename_i hdeep;have hd2:192<=c->deep=false:=λh1=>by
    cases deep with
    |false=>rfl
    |true=>exact absurd ⟨h1,rfl⟩ hdeep
   split at h
   ·rename_i h1;cases h;exact .inl ⟨h1,rfl,rfl,by simp⟩
   ·rename_i h1;have hbase:(if 192<=c then 192 else 128:Nat)+nOf c=c.toNat:=by
     unfold nOf;split<;>omega
    have hn63:nOf c<=63:=by
     unfold nOf;split<;>omega
    right;show 128<=c/\_;refine⟨by omega,?_⟩;show 1<=f/\f<=t/\t<=(c::r).length/\t-f<=16777215/\(c::r).take f=hd (if 192<=c then 192 else 128) (t-f)/\(192<=c->deep=false)/\_;split at h
    ·rename_i h55;split at h
     ·cases h
     ·rename_i h4;obtain⟨l1,l2,l3,l4,l5⟩:=Ia (Decidable.not_not.1 h4);split at h
      ·cases h
      ·cases h;rw[l5]at*;have hk1:1<=nOf c-55:=(by omega);have hlt:=DN (b:=r) (λx hx=>hb x (AN _ hx)) (j:=nOf c-55) l2 l1;have hhead:(r.take (nOf c-55)).headD 0≠0:=by
        cases r with
        |nil=>simp at l2;omega
        |cons y r=>
         obtain⟨k,hk⟩:∃k,nOf c-55=k+1:=⟨nOf c-55-1,by omega⟩;rw[hk];exact l3
       have hbe:=YA (r.take (nOf c-55)) (λx hx=>hb x (AN _ (Bn hx))) hhead;have hnb:nb (val (r.take (nOf c-55)))=nOf c-55:=by
        rw[<-JT,hbe,Am];omega
       refine⟨by omega,by omega,by omega,by omega,?_,hd2,by constructor<;>intro _<;>omega⟩;rw[show 1+(nOf c-55)+val (r.take (nOf c-55))-(1+(nOf c-55))=val (r.take (nOf c-55))from by omega];unfold hd;rw[Ae (by omega),hnb,hbe,show 1+(nOf c-55)=(nOf c-55)+1 from by omega,CG];congr 1;omega
    ·rename_i h55;split at h
     ·cases h
     ·cases h;refine⟨by omega,by omega,by omega,by omega,?_,hd2,by constructor<;>intro _<;>omega⟩;rw[show 1+nOf c-1=nOf c from by omega];unfold hd;rw[Ai (by omega)];show[c]=_;congr 1;omega
def Good(d:Nat)(b:List Int)(t:T)(n:Nat):Prop:=
 enc t=b.take n/\form t=true/\∀w,w+n<=16777215->(wk t d w).2=0/\(wk t d w).1<=w+n
theorem L9{d:Nat}{g:List Int->R}(hg:∀b t n,(∀x∈b,0<=x/\x<256)->g b= .ok t n->Good d b t n/\1<=n/\n<=b.length):
 ∀(n:Nat)(b:List Int)(ts:List T),(∀x∈b,0<=x/\x<256)->rdAll g n b= .ok ts->encs ts=b/\forms ts=true/\∀w,w+b.length<=16777215->(wks ts d w).2=0/\(wks ts d w).1<=w+b.length
 |n,[],ts,hb,h=>by
  rw[Fq]at h;cases h;exact⟨Cr,EH,λw hw=>by rw[E1];exact⟨rfl,by simp⟩⟩
 |0,x::b,ts,hb,h=>by cases h
 |n+1,x::b,ts,hb,h=>by
  cases hx:g (x::b)with
  |bad e=>rw[FR (by simp) hx]at h;cases h
  |ok t m=>
   rw[G4 (by simp) hx]at h;obtain⟨⟨g1,g2,g3⟩,m1,m2⟩:=hg _ _ _ hb hx;cases hr:rdAll g n ((x::b).drop m)with
   |bad e=>rw[hr]at h;cases h
   |ok us=>
    rw[hr]at h;cases h;obtain⟨r1,r2,r3⟩:=L9 hg n _ us (λy hy=>hb y (BF hy)) hr;refine⟨by rw[C7,g1,r1,Be],by rw[IM,g2,r2];rfl,λw hw=>?_⟩;have e:=AQ (i:=m) (l:=x::b);obtain⟨a1,a2⟩:=g3 w (by omega);rw[FB,Ai a1];obtain⟨b1,b2⟩:=r3 _ (show(wk t d w).1+((x::b).drop m).length<=16777215 by omega);exact⟨b1,by omega⟩
theorem UN{f t:Nat}(h:f<=t):b.take t=b.take f++(b.take t).drop f:=by
 conv=>lhs;rw[<-Be f (b.take t)];rw[E8,CP h]
theorem UO{l:Bool}{bs:List Int}(h:bs.length<=n)(h1:1<=n):wt l bs d<=n:=by
 unfold wt;split<;>omega
theorem OI{g:List Int->R}(hdd:deep=false->d<8)(hg:∀b t n,(∀x∈b,0<=x/\x<256)->g b= .ok t n->Good (d+1) b t n/\1<=n/\n<=b.length){t:T}(hb:∀x∈b,0<=x/\x<256)(h:rd1 g deep b= .ok t n):
 Good d b t n/\(bodyOf t).length<=16777215/\((wk t 0 0).2=0∨d≠0):=by
 have hn:=UE h;unfold rd1 at h;split at h
 ·cases h
 ·rename_i f t' hh;have hp:=SY hb hh;have hok:=L3 hh;have hlb:((b.take t').drop f).length=t'-f:=by rw[AQ,Am];omega
  split at h
  ·rename_i h192;split at h
   ·cases h
   ·rename_i hno;cases h;have hwk:∀d' w,w+wt false ((b.take n).drop f) d'<=16777215->wk (.mk false ((b.take n).drop f) []) d' w=(w+wt false ((b.take n).drop f) d',0):=by
     intro d' w hw;rw[Ji,Ae (by simp),Ae (by simp[wrongForm]),Ae (by omega),E1]
    have hwt:∀d',wt false ((b.take n).drop f) d'<=n:=λd'=>UO (by omega) hn.1;have hlen:((b.take n).drop f).length<=16777215:=by
     rw[hlb];rcases hp with⟨_,rfl,rfl,_⟩|⟨_,_,_,_,h5,_⟩
     ·omega
     ·exact h5
    refine⟨⟨?_,?_,?_⟩,?_,?_⟩
    ·rw[Ew,Cr,A4];rcases hp with⟨h1,rfl,rfl,h4⟩|⟨h1,h2,h3,h4,h5,h6,h7,h8⟩
     ·cases b with
      |nil=>simp at h4
      |cons c r=>
       have h1':c<128:=h1;rw[Ai (by simp[bare,h1'])];simp
     ·have hnb:bare false ((b.take n).drop f)=false:=by
       unfold bare;by_cases hl1:((b.take n).drop f).length=1
       ·rw[hlb]at hl1;have hf1:f=1:=h8.2 (by omega);subst hf1;have hn2:n=2:=(by omega);subst hn2;have hge:¬b.getD 1 0<128:=λhlt=>hno ⟨rfl,rfl,hlt⟩;have hhd:((b.take 2).drop 1).headD 0=b.getD 1 0:=by
         cases b with
         |nil=>rfl
         |cons c r=>cases r<;>rfl
        rw[hhd,Bb hge];simp
       ·rw[Bb hl1];rfl
      rw[hnb,Ae (by simp),hlb,baseOf,Ae (by simp)];rw[Ae (by omega)]at h6;rw[<-h6,<-UN h3]
    ·rw[Gu,EH];simp
    ·intro w hw;have:=hwt d;rw[hwk d w (by omega)];exact⟨rfl,by show w+_<=_;omega⟩
    ·show((b.take n).drop f++encs []).length<=16777215;rw[Cr,A4];exact hlen
    ·left;have:wt false ((b.take n).drop f) 0<=16777215:=UO hlen (by omega);rw[hwk 0 0 (by omega)]
  ·rename_i h192;split at h
   ·cases h
   ·rename_i ts hts;cases h;rcases hp with⟨h1,_⟩|⟨h1,h2,h3,h4,h5,h6,h7,h8⟩
    ·exact absurd h1 (by omega)
    ·have h192':192<=b.headD 0:=(by omega);have hdp:=hdd (h7 h192');obtain⟨r1,r2,r3⟩:=L9 hg _ _ ts (λy hy=>hb y (Bn (BF hy))) hts;have hbody:(encs ts).length=n-f:=(by rw[r1,hlb]);have hwk:∀d' w,d'<8->w+wt true [] d'<=16777215->wk (.mk true [] ts) d' w=wks ts (d'+1) (w+wt true [] d'):=by
      intro d' w hd' hw;rw[Ji,Ae (by simp;omega),Ae (by simp[wrongForm]),Ae (by omega)]
     rw[hlb]at r3;refine⟨⟨?_,?_,?_⟩,?_,?_⟩
     ·rw[Ew,AL,Ae (by simp[bare]),hbody,baseOf,Ai rfl];rw[Ai h192']at h6;rw[<-h6,r1,<-UN h3]
     ·rw[Gu,r2];rfl
     ·intro w hw;have hw1:wt true [] d<=1:=UO (by simp) (by omega);rw[hwk d w hdp (by omega)];obtain⟨a1,a2⟩:=r3 (w+wt true [] d) (by omega);exact⟨a1,by omega⟩
     ·show(([]:List Int)++encs ts).length<=16777215;rw[AL,hbody];exact h5
     ·by_cases hd0:d=0
      ·subst hd0;left;have hw0:wt true [] 0=0:=rfl;rw[hwk 0 0 (by omega) (by omega),hw0];exact(r3 0 (by omega)).1
      ·exact .inr hd0
theorem RM:∀k d,d+k=8->∀b t n,(∀x∈b,0<=x/\x<256)->rd k b= .ok t n->Good d b t n/\(bodyOf t).length<=16777215/\((wk t 0 0).2=0∨d≠0)
 |0,d,hd,b,t,n,hb,h=>OI (deep:=true) (λh=>by cases h) (λb t n _ h=>by cases h) hb h
 |k+1,d,hd,b,t,n,hb,h=>OI (g:=rd k) (deep:=false) (λ_=>by omega) (λb t n hb h=>⟨(RM k (d+1) (by omega) b t n hb h).1,OE h⟩) hb h
theorem WW{t:T}(hb:∀x∈b,0<=x/\x<256)(h:rd 8 b= .ok t b.length):encP t=(b,0)/\(mP t).2=0:=by
 obtain⟨⟨g1,g2,_⟩,g3,g4⟩:=RM 8 0 rfl b t b.length hb h;have hw:(wk t 0 0).2=0:=g4.resolve_right (λh=>h rfl);have hm:(mP t).2=0:=by
  unfold mP;rw[Ae (by rw[hw];simp),Ae (by rw[Jj g2];omega)]
 rw[List.take_length]at g1;exact⟨by unfold encP;rw[Ai hm,g1],hm⟩
end Go.Proofs.YtefhepcplempkaaGreat
