/- The document's Ones and Without. -/
import Derived.Test.YtefhepcplempkaaGreatAK
import Derived.Test.YtefhepcplempkaaGreatG18
import Derived.Test.YtefhepcplempkaaGreatG01
import Derived.Test.YtefhepcplempkaaGreatG14
import Derived.Test.YtefhepcplempkaaGreatG13
import Derived.Test.YtefhepcplempkaaGreatG00
set_option linter.unusedVariables false
set_option maxRecDepth 100000
set_option maxHeartbeats 8000000
open Go.Proofs.Tryz Go.RowKit
namespace Go.Proofs.YtefhepcplempkaaGreat
open Tr
variable {K : Nat → Prop} {w : World} {a : Option Addr} {n c : Nat} {vs : List (Value × Value)}
theorem II{α β:Type}(f:α->β)(l:List α)(j:Nat)(e:α)(h:l[j]?=some e):(l.take (j+1)).map f=(l.take j).map f++[f e]:=by
 rw[C4,h,BB];rfl
theorem Pz{l:PList}(hl:PAt K w a n c vs l)(hb:n<=2932031007400)(hlen:∀(j:Nat) k x,l[j]?=some (k,x)->k.length<=1000000):
 Calls prog 31 #[.slice a n c] w λe w'=>∃u,e= .returned u/\(λu w'=>(∃a' m' c' vs',u= .slice a' m' c'/\PAt (λb=>K b∨w.heap.size<=b) w' a' m' c' vs' (onesP l))/\Bl w w') u w':=by
 have hB:=Bl.refl w;have ll:=hl.ll;have hl0:=hl.old;refine EO func31 27<|Ho (X:=Nat×Value) 17 (λz=>[(4, .int .i64 ((z.1:Nat):Int)),(3,z.2),(0, .slice a n c)]) (λz v=>Bl w v/\OwnN (λb=>K b∨w.heap.size<=b) v w.heap.size z.2 ((l.take z.1).map (λe:List Int×List Int=>(Ni.nib e.1,e.2)))/\z.1<=n) (λz=>n-z.1) (0, .slice none 0 0) ⟨hB,by rw[BL];exact OwnN.nil (λb hb=> .inr hb),AD _⟩ ?_;clear hB;rintro⟨j,V⟩ v⟨hB,hO,hj⟩ I1 hN1;simp only at hB hO hj;by_cases hlt:j<n
 ·skip
  obtain⟨gE,oE,a1,n1,c1,a2,n2,c2,k,x,ea,hej,hc1,hc2,hs1,hs2⟩:=hl0.at hlt;subst ea;have lk:=hs1.len;have hkl:=hlen j k x hej;refine Ht 6 ((j:Int)<(n:Int))<|Hj 7 (λv=>Bl w v) (hB.drew) ?_;replace hB:=hB.drew;refine Dx [0,1,2] 3 (og f31 5 3) (.pointer (some ⟨gE,oE+j*2,none⟩)) (λv hv _=>Bh 22 _ _ gE oE j n c 2 51 rfl (by kernel_rfl) (by kernel_rfl) hlt underlying22 (by kernel_rfl)) hB<|Dx [4] 5 (og f31 5 5) (.slice a1 n1 c1) (λv hv _=>AA 23 _ _ _ _ rfl (by kernel_rfl) ((Br hv (Af hc1)).trans hc1) underlying23 rfl) hB<|Dx [7,8] 9 (og f31 5 9) (.pointer (some ⟨gE,oE+j*2,none⟩)) (λv hv _=>Bh 22 _ _ gE oE j n c 2 51 rfl (by kernel_rfl) (by kernel_rfl) hlt underlying22 (by kernel_rfl)) hB<|Dx [10] 11 (og f31 5 11) (.slice a2 n2 c2) (λv hv _=>AA 23 _ _ _ _ rfl (by kernel_rfl) ((Br hv (Af hc2)).trans hc2) underlying23 rfl) hB<|Dz [6] ?_;refine Yc 6 (R:=λu w'=>(∃a' m' c',u= .slice a' m' c'/\Sk (λb=>(v.drew).heap.size<=b) w' a' m' c' (Ni.nib k))/\Bl (v.drew) w') (Sz (hs1.go hB) (by omega)) (λu w' h=>hB.go h.2) ?_ yn;rintro _ u1⟨⟨a6,n6,c6,rfl,hs6⟩,hb6⟩;have hz6:=hb6.size;replace hO:=hO.far (Ak _ _).drew;have hOw:=hO.own;have hwz:=hB.size;replace hB:=hB.go hb6;refine Dx [] 12 (og f31 5 12) (.agg #[.slice a6 n6 c6, .slice a2 n2 c2]) (λv hv=>(λ_=>by kernel_rfl)) hB<|Dz [13] ?_;refine Qc 13 #[.slice a6 n6 c6, .slice a2 n2 c2] 103 1 (λw' g h=>hB.go h.below) ?_ yn;intro wN gN hnN _;replace hs6:=hs6.mono (K':=λb=>(K b/\b<w.heap.size)∨v.drew.heap.size<=b) (λb hb=> .inr hb);have hP1:=PAt.oneN hnN hs6 ((hs2.go hB).mono (K':=λb=>(K b/\b<w.heap.size)∨v.drew.heap.size<=b) (λb hb=> .inl hb)) (by have:=hnN.hg;exact .inr (by omega));refine Dz [14] ?_;replace hO:=(hO.far hb6).far hnN.below;replace hB:=hB.go hnN.below;obtain⟨V2,wQ,hrQ,hOQ,hbQ⟩:=Zi hO hP1 (λb hb=>⟨λe=>by have:=hOw b e;rcases hb with h|h<;>omega,by rcases hb with h|h;exact .inl h.1;exact .inr (by omega)⟩) (by rw[AZ,Am];omega) hB.size;refine Yx 14 (og f31 5 14) V2 (λ_=>Mh hrQ _ _ rfl (by kernel_rfl) (by kernel_rfl)) (Ce hB hbQ) ?_ yn;replace hB:Bl w wQ:=Ce hB hbQ;replace hO:=hOQ;refine Dq [15] hB<|Hi 4 ((j:Int)+1) ((j:Int)+1) ?_;exact hN1 2 (j+1,V2) ⟨hB,by show OwnN _ _ _ _ ((l.take (j+1)).map _);rw[II _ l j _ hej];exact hO,by show j+1<=n;omega⟩ (by show n-(j+1)<n-j;omega) (λ_=>by kernel_rfl)
 obtain rfl:j=n:=by omega
 rw[A8 (by omega)]at hO;refine Hf 6 ((j:Int)<(j:Int)) ?_;obtain⟨aF,cF,vsF,eF,hF⟩:=hO.pat
 subst eF;exact Hr 15 (.slice aF (l.map (λe:List Int×List Int=>(Ni.nib e.1,e.2))).length cF) ⟨_,rfl,⟨aF,_,cF,vsF,rfl,hF⟩,hB⟩
theorem KH{l:PList}(hl:PAt K w a n c vs l)(hb:n<=2932031007400){d:Nat}(hd:∀(j:Nat) k x,l[j]?=some (k,x)->d<=k.length):
 Calls prog 36 #[.slice a n c, .int .i64 (d:Int)] w λe w'=>∃u,e= .returned u/\(λu w'=>(∃a' m' c' vs',u= .slice a' m' c'/\PAt (λb=>K b∨w.heap.size<=b) w' a' m' c' vs' (withoutP d l))/\Bl w w') u w':=by
 have hB:=Bl.refl w;have ll:=hl.ll;have hl0:=hl.old;refine EO func36 30<|Ho (X:=Nat×Value) 17 (λz=>[(6, .int .i64 ((z.1:Nat):Int)),(5,z.2),(0, .slice a n c),(1, .int .i64 (d:Int))]) (λz v=>Bl w v/\OwnN (λb=>K b∨w.heap.size<=b) v w.heap.size z.2 ((l.take z.1).map (λe:List Int×List Int=>(e.1.drop d,e.2)))/\z.1<=n) (λz=>n-z.1) (0, .slice none 0 0) ⟨hB,by rw[BL];exact OwnN.nil (λb hb=> .inr hb),AD _⟩ ?_;clear hB;rintro⟨j,V⟩ v⟨hB,hO,hj⟩ I1 hN1;simp only at hB hO hj;by_cases hlt:j<n
 ·skip
  obtain⟨gE,oE,a1,n1,c1,a2,n2,c2,k,x,ea,hej,hc1,hc2,hs1,hs2⟩:=hl0.at hlt;subst ea;have lk:=hs1.len;have hdl:=hd j k x hej;refine Ht 6 ((j:Int)<(n:Int)) ?_;obtain⟨a6,n6,c6,hr7,hs7⟩:=hs1.cutFrom d (by omega);refine Hj 7 (λv=>Bl w v) (hB.drew) ?_;replace hB:=hB.drew;refine Dx [0,1,2] 3 (og f36 5 3) (.pointer (some ⟨gE,oE+j*2,none⟩)) (λv hv _=>Bh 62 _ _ gE oE j n c 2 103 rfl (by kernel_rfl) (by kernel_rfl) hlt underlying62 (by kernel_rfl)) hB<|Dx [4] 5 (og f36 5 5) (.slice a1 n1 c1) (λv hv _=>AA 23 _ _ _ _ rfl (by kernel_rfl) ((Br hv (Af hc1)).trans hc1) underlying23 rfl) hB<|Dx [6] 7 (og f36 5 7) (.slice a6 n6 c6) (λv hv _=>hr7 _ _ _ _ _ _ rfl (by kernel_rfl) (by kernel_rfl) rfl) hB<|Dx [8,9] 10 (og f36 5 10) (.pointer (some ⟨gE,oE+j*2,none⟩)) (λv hv _=>Bh 62 _ _ gE oE j n c 2 103 rfl (by kernel_rfl) (by kernel_rfl) hlt underlying62 (by kernel_rfl)) hB<|Dx [11] 12 (og f36 5 12) (.slice a2 n2 c2) (λv hv _=>AA 23 _ _ _ _ rfl (by kernel_rfl) ((Br hv (Af hc2)).trans hc2) underlying23 rfl) hB<|Dx [] 13 (og f36 5 13) (.agg #[.slice a6 n6 c6, .slice a2 n2 c2]) (λv hv=>(λ_=>by kernel_rfl)) hB<|Dz [14] ?_;replace hO:=hO.far (Ak _ _).drew;have hOw:=hO.own;have hwz:=hB.size;have hz6:=Aa v.drew.heap.size;have hs6:=(hs7.go hB).mono (K':=λb=>(K b/\b<w.heap.size)∨v.drew.heap.size<=b) (λb hb=> .inl hb);refine Qc 14 #[.slice a6 n6 c6, .slice a2 n2 c2] 103 1 (λw' g h=>hB.go h.below) ?_ yn;intro wN gN hnN _;have hP1:=PAt.oneN hnN hs6 ((hs2.go hB).mono (K':=λb=>(K b/\b<w.heap.size)∨v.drew.heap.size<=b) (λb hb=> .inl hb)) (by have:=hnN.hg;exact .inr (by omega));refine Dz [15] ?_;replace hB:=hB.go hnN.below;replace hO:=hO.far hnN.below;obtain⟨V2,wQ,hrQ,hOQ,hbQ⟩:=Zi hO hP1 (λb hb=>⟨λe=>by have:=hOw b e;rcases hb with h|h<;>omega,by rcases hb with h|h;exact .inl h.1;exact .inr (by omega)⟩) (by rw[AZ,Am];omega) hB.size;refine Yx 15 (og f36 5 15) V2 (λ_=>Mh hrQ _ _ rfl (by kernel_rfl) (by kernel_rfl)) (Ce hB hbQ) ?_ yn;replace hB:Bl w wQ:=Ce hB hbQ;replace hO:=hOQ;refine Dq [16] hB<|Hi 4 ((j:Int)+1) ((j:Int)+1) ?_;exact hN1 2 (j+1,V2) ⟨hB,by show OwnN _ _ _ _ ((l.take (j+1)).map _);rw[II _ l j _ hej];exact hO,by show j+1<=n;omega⟩ (by show n-(j+1)<n-j;omega) (λ_=>by kernel_rfl)
 obtain rfl:j=n:=by omega
 rw[A8 (by omega)]at hO;refine Hf 6 ((j:Int)<(j:Int)) ?_;obtain⟨aF,cF,vsF,eF,hF⟩:=hO.pat
 subst eF;exact Hr 15 (.slice aF (l.map (λe:List Int×List Int=>(e.1.drop d,e.2))).length cF) ⟨_,rfl,⟨aF,_,cF,vsF,rfl,hF⟩,hB⟩
end Go.Proofs.YtefhepcplempkaaGreat
namespace Go.Proofs.YtefhepcplempkaaGreat.Ni
theorem rcommon_any(a1 a2:Option Addr)(n1 c1 n2 c2:Nat)(p q:List Int)(w:World)(h1:Ag w a1 n1 c1 p)(h2:Ag w a2 n2 c2 q)(hn1:n1<=140737488355328)(hn2:n2<=140737488355328):
 Calls prog 84 #[.slice a1 n1 c1, .slice a2 n2 c2] w λe w'=>e= .returned (.int .i64 (com p q:Nat))/\Below w.heap.size w w':=by
 have HL1:=ZQ h1.l;have HL2:=ZQ h2.l;have HC1:=ZQ (λh=>ag_head h1 h);have HC2:=ZQ (λh=>ag_head h2 h);clear h1 h2;obtain⟨res,hres⟩:∃r,com p q=r:=⟨_,rfl⟩;rw[hres];have HRES:=ZQ hres;clear hres;go_enter func84,ntmps84;go_wp2_with fail
 go_loopw [5] (λi v=>∃j:Nat,j<=n1/\j<=n2/\i= .int .i64 j/\p.take j=q.take j/\Below w.heap.size w v) (λi _=>n1-(intOf i).toNat)
 case atStart=>exact⟨0,by omega,by omega,rfl,rfl,Ak _ _⟩
 case round=>
  obtain⟨j,hj1,hj2,rfl,htk,hb⟩:=hrel;have HTK:=ZQ htk;have HBW:=ZQ hb;clear htk hb;have HD:Hid ((j=p.length∨j=q.length∨p.getD j 0≠q.getD j 0)->res=j):=ZQ (λh=>HRES.out.symm.trans (Lr p q j (by have:=HL1.out;omega) (by have:=HL2.out;omega) HTK.out h));by_cases hlt1:j<n1
  case neg=>
   have hji:¬(j:Int)<n1:=(by omega);have e:=HD.out (.inl (by have:=HL1.out;omega));subst e;go_wp2_with fail
   go_region
   all_goals
    go_wp2_with fail;go_ret;exact⟨rfl,HBW.out.drew⟩
  have hji1:(j:Int)<n1:=by omega
  by_cases hlt2:j<n2
  case neg=>
   have hji:¬(j:Int)<n2:=(by omega);have e:=HD.out (.inr (.inl (by have:=HL2.out;omega)));subst e;go_wp2_with fail
   go_region
   all_goals
    go_wp2_with fail;go_ret;exact⟨rfl,HBW.out.drew⟩
  have hji2:(j:Int)<n2:=by omega
  obtain⟨g1,o1,rfl,hnc1,hcm1,hcs1⟩:=HC1.out (by omega);obtain⟨g2,o2,rfl,hnc2,hcm2,hcs2⟩:=HC2.out (by omega);unfold maxLen at hcm1 hcm2;have hcell1:=(HBW.out.cell (p:=⟨g1,o1+j,none⟩) (Af (hcs1 j hlt1))).trans (hcs1 j hlt1);have hcell2:=(HBW.out.cell (p:=⟨g2,o2+j,none⟩) (Af (hcs2 j hlt2))).trans (hcs2 j hlt2);have HT1:=ZQ (take_snoc (b:=p) (i:=j) (by have:=HL1.out;omega));have HT2:=ZQ (take_snoc (b:=q) (i:=j) (by have:=HL2.out;omega));generalize p.getD j 0=x at*;generalize q.getD j 0=y at*;clear hcs1 hcs2;by_cases hxy:x=y
  ·subst hxy;have hq:(x==x)=true:=(by simp);go_wp2_with fail
   go_region
   all_goals
    go_wp2_with fail;exact⟨⟨j+1,by omega,by omega,by simp,by rw[HT1.out,HT2.out,HTK.out],HBW.out.drew⟩,by simp[intOf];omega⟩
  ·have e:=HD.out (.inr (.inr hxy));subst e;have hq:(x==y)=false:=(by simpa using hxy);clear hxy;go_wp2_with fail
   go_region
   all_goals
    go_wp2_with fail;go_ret;exact⟨rfl,HBW.out.drew⟩
end Go.Proofs.YtefhepcplempkaaGreat.Ni
namespace Go.Proofs.YtefhepcplempkaaGreat
open Tr
variable {j n c : Nat} {K : Nat → Prop} {w : World} {a : Option Addr} {vs : List (Value × Value)}
theorem P2{l:PList}{e:List Int×List Int}(h:l[0]?=some e):alikeP (l.take 1)=e.1.length:=by
 cases l with
 |nil=>simp at h
 |cons f r=>
  have:f=e:=by simpa using h
  subst this;rfl
theorem QO{l:PList}{e f:List Int×List Int}(h0:l[0]?=some e)(hj:l[j]?=some f)(h1:1<=j):alikeP (l.take (j+1))=min (alikeP (l.take j)) (Ni.com e.1 f.1):=by
 cases l with
 |nil=>simp at h0
 |cons g r=>
  have:g=e:=by simpa using h0
  subst this;obtain⟨i,rfl⟩:∃i,j=i+1:=⟨j-1,by omega⟩;have hi:r[i]?=some f:=by simpa using hj
  rw[CG,CG,C4,hi];simp only[alikeP,Option.toList_some,List.foldl_append,List.foldl_cons,List.foldl_nil]
theorem QP{l:PList}{e:List Int×List Int}(i:Int)(hj:l[j]?=some e):underP i (l.take (j+1))=underP i (l.take j)++under1 i e:=by
 unfold underP;rw[C4,hj,Ca];simp
theorem GK(i:Int):∀l:PList,(underP i l).length<=l.length
 |[]=>Aa _
 |e::r=>by
  have:=GK i r;have h1:(under1 i e).length<=1:=by unfold under1;split;simp;split<;>simp
  unfold underP at this⊢;rw[Cm,Ab,AU];omega
theorem Nk{l:PList}(hl:PAt K w a n c vs l)(hb:n<=2932031007400)(h1:0<n)(hlen:∀(j:Nat) k x,l[j]?=some (k,x)->k.length<=1000000):
 Calls prog 57 #[.slice a n c] w λe w'=>∃u,e= .returned u/\(λu w'=>u= .int .i64 ((alikeP l:Nat):Int)/\Bl w w') u w':=by
 have hB:=Bl.refl w;have ll:=hl.ll;have hl0:=hl.old;obtain⟨gE,oE,a0,n0,c0,b0,m0,d0,k0,x0,ea,he0,hc0,_,hs0,_⟩:=hl0.at h1;subst ea;have lk0:=hs0.len;have hk0:=hlen 0 k0 x0 he0;refine EO func57 31<|Hx 8 (og f57 1 1) (.pointer (some ⟨gE,oE+0*2,none⟩)) (λ_=>Bh 62 _ _ gE oE 0 n c 2 103 rfl (by kernel_rfl) (by kernel_rfl) h1 underlying62 (by kernel_rfl))<|Hx 1 (og f57 1 3) (.slice a0 n0 c0) (λ_=>AA 23 _ _ _ _ rfl (by kernel_rfl) ((Br hB (Af hc0)).trans hc0) underlying23 rfl)<|Ho (X:=Nat×Nat) 11 (λz=>[(4, .int .i64 ((z.1:Nat):Int)),(3, .int .i64 ((z.2:Nat):Int)),(0, .slice (some ⟨gE,oE,none⟩) n c)]) (λz v=>Bl w v/\z.2=alikeP (l.take z.1)/\1<=z.1/\z.1<=n) (λz=>n-z.1) (1,n0) ⟨hB,by rw[P2 he0];exact lk0.symm,Aa _,h1⟩ ?_;clear hB;rintro⟨j,m⟩ v⟨hB,hm,hj0,hj⟩ I1 hN1;simp only at hB hm hj0 hj;by_cases hlt:j<n
 ·skip
  obtain⟨gJ,oJ,a1,n1,c1,b1,m1,d1,k1,x1,ea,hej,hc1,_,hs1,_⟩:=hl0.at hlt;cases ea;have lk1:=hs1.len;have hk1:=hlen j k1 x1 hej;refine Ht 6 ((j:Int)<(n:Int))<|Hj 8 (λv=>Bl w v) (hB.drew) ?_;replace hB:=hB.drew;refine Dx [0] 1 (og f57 5 1) (.pointer (some ⟨gE,oE+0*2,none⟩)) (λv hv _=>Bh 62 _ _ gE oE 0 n c 2 103 rfl (by kernel_rfl) (by kernel_rfl) h1 underlying62 (by kernel_rfl)) hB<|Dx [2] 3 (og f57 5 3) (.slice a0 n0 c0) (λv hv _=>AA 23 _ _ _ _ rfl (by kernel_rfl) ((Br hv (Af hc0)).trans hc0) underlying23 rfl) hB<|Dx [4,5] 6 (og f57 5 6) (.pointer (some ⟨gE,oE+j*2,none⟩)) (λv hv _=>Bh 62 _ _ gE oE j n c 2 103 rfl (by kernel_rfl) (by kernel_rfl) hlt underlying62 (by kernel_rfl)) hB<|Dx [7] 8 (og f57 5 8) (.slice a1 n1 c1) (λv hv _=>AA 23 _ _ _ _ rfl (by kernel_rfl) ((Br hv (Af hc1)).trans hc1) underlying23 rfl) hB<|Dz [9] ?_;refine Yc 9 (R:=λu w'=>u= .int .i64 ((Ni.com k0 k1:Nat):Int)/\Bl (v.drew) w') ((Ni.rcommon_any _ _ _ _ _ _ k0 k1 _ (hs0.go hB).ag (hs1.go hB).ag (by omega) (by omega)).mono (λe w'⟨h1,h2⟩=>⟨_,h1,rfl,h2⟩)) (λu w' h=>hB.go h.2) ?_ yn;rintro _ u1⟨rfl,hb6⟩;replace hB:=hB.go hb6;refine Dq [10] hB<|Hw 4 (.int .i64 (if((Ni.com k0 k1:Nat):Int)<(m:Int)then((Ni.com k0 k1:Nat):Int)else(m:Int))) (.int .i64 ((min m (Ni.com k0 k1):Nat):Int)) (Au (Value.int .i64) (by split<;>omega))<|Hi 6 ((j:Int)+1) ((j:Int)+1) ?_;exact hN1 2 (j+1,min m (Ni.com k0 k1)) ⟨hB,by show min m (Ni.com k0 k1)=_;rw[QO he0 hej hj0,hm],by show 1<=j+1;omega,by show j+1<=n;omega⟩ (by show n-(j+1)<n-j;omega) (λ_=>by kernel_rfl)
 obtain rfl:j=n:=by omega
 rw[A8 (by omega)]at hm;refine Hf 6 ((j:Int)<(j:Int)) ?_;exact Hr 15 (.int .i64 (m:Int)) ⟨_,rfl,by rw[hm],hB⟩
theorem Ki{l:PList}(hl:PAt K w a n c vs l)(hb:n<=2932031007400)(i:Nat)(hi:i<16):
 Calls prog 37 #[.slice a n c, .int .i64 (i:Int)] w λe w'=>∃u,e= .returned u/\(λu w'=>(∃a' m' c' vs',u= .slice a' m' c'/\PAt (λb=>K b∨w.heap.size<=b) w' a' m' c' vs' (underP (i:Int) l))/\Bl w w') u w':=by
 have hB:=Bl.refl w;have ll:=hl.ll;have hl0:=hl.old;refine EO func37 48<|Ho (X:=Nat×Value) 17 (λz=>[(6, .int .i64 ((z.1:Nat):Int)),(5,z.2),(0, .slice a n c),(1, .int .i64 (i:Int))]) (λz v=>Bl w v/\OwnN (λb=>K b∨w.heap.size<=b) v w.heap.size z.2 (underP (i:Int) (l.take z.1))/\z.1<=n) (λz=>n-z.1) (0, .slice none 0 0) ⟨hB,by rw[BL];exact OwnN.nil (λb hb=> .inr hb),AD _⟩ ?_;clear hB;rintro⟨j,V⟩ v⟨hB,hO,hj⟩ I1 hN1;simp only at hB hO hj;by_cases hlt:j<n
 ·skip
  obtain⟨gE,oE,a1,n1,c1,a2,n2,c2,k,x,ea,hej,hc1,hc2,hs1,hs2⟩:=hl0.at hlt;subst ea;have lk:=hs1.len;have hst:=QP (i:Int) hej;have hln:=GK (i:Int) (l.take j);rw[Am]at hln;cases k with
  |nil=>
   rw[show under1 (i:Int) ([],x)=[]from rfl,A4]at hst;refine Ht 6 ((j:Int)<(n:Int))<|Hx 11 (og f37 5 2) (.pointer (some ⟨gE,oE+j*2,none⟩)) (λ_=>Bh 62 _ _ gE oE j n c 2 103 rfl (by kernel_rfl) (by kernel_rfl) hlt underlying62 (by kernel_rfl))<|Hx 1 (og f37 5 4) (.slice a1 n1 c1) (λ_=>AA 23 _ _ _ _ rfl (by kernel_rfl) ((Br hB (Af hc1)).trans hc1) underlying23 rfl)<|Hb 1 (decide ((n1:Int)>(0:Int))) false (Bb (by simp at lk;omega))<|Hi 20 ((j:Int)+1) ((j:Int)+1) ?_;exact hN1 2 (j+1,V) ⟨hB,by show OwnN _ _ _ _ (underP (i:Int) (l.take (j+1)));rw[hst];exact hO,by show j+1<=n;omega⟩ (by show n-(j+1)<n-j;omega) (λ_=>by kernel_rfl)
  |cons y p=>
   obtain⟨g1,o1,ea1,hcb,hn1⟩:=hs1.head;subst ea1;have hyb:=hs1.ag.b y (by simp);by_cases hyi:y=(i:Int)
   ·skip
    rw[show under1 (i:Int) (y::p,x)=[(p,x)]from Ai hyi]at hst;refine Ht 6 ((j:Int)<(n:Int))<|Hx 11 (og f37 5 2) (.pointer (some ⟨gE,oE+j*2,none⟩)) (λ_=>Bh 62 _ _ gE oE j n c 2 103 rfl (by kernel_rfl) (by kernel_rfl) hlt underlying62 (by kernel_rfl))<|Hx 1 (og f37 5 4) (.slice (some ⟨g1,o1,none⟩) n1 c1) (λ_=>AA 23 _ _ _ _ rfl (by kernel_rfl) ((Br hB (Af hc1)).trans hc1) underlying23 rfl)<|Ht 1 ((n1:Int)>(0:Int))<|Hx 3 (og f37 5 10) (.pointer (some ⟨gE,oE+j*2,none⟩)) (λ_=>Bh 62 _ _ gE oE j n c 2 103 rfl (by kernel_rfl) (by kernel_rfl) hlt underlying62 (by kernel_rfl))<|Hx 1 (og f37 5 12) (.slice (some ⟨g1,o1,none⟩) n1 c1) (λ_=>AA 23 _ _ _ _ rfl (by kernel_rfl) ((Br hB (Af hc1)).trans hc1) underlying23 rfl)<|Hx 0 (og f37 5 13) (.pointer (some ⟨g1,o1+0*1,none⟩)) (λ_=>Bh 23 _ _ g1 o1 0 n1 c1 1 5 rfl (by kernel_rfl) (by kernel_rfl) hn1 underlying23 (by kernel_rfl))<|Hx 0 (og f37 5 14) (.int .u8 y) (λ_=>AA 5 _ _ _ _ rfl (by kernel_rfl) ((Br hB (Af hcb)).trans hcb) underlying5 rfl)<|Hw 0 (.int .i64 (IntKind.i64.wrap y)) (.int .i64 y) (Au (Value.int .i64) (Ec (by omega) (by omega)))<|Hb 1 ((y:Int)==(i:Int)) true (D6.2 hyi) ?_;obtain⟨a6,n6,c6,hr7,hs7⟩:=hs1.cutFrom 1 (by omega);refine Hj 4 (λv=>Bl w v) (hB.drew) ?_;replace hB:=hB.drew;refine Dx [0,1,2] 3 (og f37 6 3) (.pointer (some ⟨gE,oE+j*2,none⟩)) (λv hv _=>Bh 62 _ _ gE oE j n c 2 103 rfl (by kernel_rfl) (by kernel_rfl) hlt underlying62 (by kernel_rfl)) hB<|Dx [4] 5 (og f37 6 5) (.slice (some ⟨g1,o1,none⟩) n1 c1) (λv hv _=>AA 23 _ _ _ _ rfl (by kernel_rfl) ((Br hv (Af hc1)).trans hc1) underlying23 rfl) hB<|Dx [] 6 (og f37 6 6) (.slice a6 n6 c6) (λv hv _=>hr7 _ _ _ _ _ _ rfl (by kernel_rfl) (by kernel_rfl) rfl) hB<|Dx [7,8] 9 (og f37 6 9) (.pointer (some ⟨gE,oE+j*2,none⟩)) (λv hv _=>Bh 62 _ _ gE oE j n c 2 103 rfl (by kernel_rfl) (by kernel_rfl) hlt underlying62 (by kernel_rfl)) hB<|Dx [10] 11 (og f37 6 11) (.slice a2 n2 c2) (λv hv _=>AA 23 _ _ _ _ rfl (by kernel_rfl) ((Br hv (Af hc2)).trans hc2) underlying23 rfl) hB<|Dx [] 12 (og f37 6 12) (.agg #[.slice a6 n6 c6, .slice a2 n2 c2]) (λv hv=>(λ_=>by kernel_rfl)) hB<|Dz [13] ?_;replace hO:=hO.far (Ak _ _).drew;have hOw:=hO.own;have hwz:=hB.size;have hz6:=Aa v.drew.heap.size;have hs6:=(hs7.go hB).mono (K':=λb=>(K b/\b<w.heap.size)∨v.drew.heap.size<=b) (λb hb=> .inl hb);refine Qc 13 #[.slice a6 n6 c6, .slice a2 n2 c2] 103 1 (λw' g h=>hB.go h.below) ?_ yn;intro wN gN hnN _;have hP1:=PAt.oneN hnN hs6 ((hs2.go hB).mono (K':=λb=>(K b/\b<w.heap.size)∨v.drew.heap.size<=b) (λb hb=> .inl hb)) (by have:=hnN.hg;exact .inr (by omega));refine Dz [14] ?_;replace hB:=hB.go hnN.below;replace hO:=hO.far hnN.below;obtain⟨V2,wQ,hrQ,hOQ,hbQ⟩:=Zi hO hP1 (λb hb=>⟨λe=>by have:=hOw b e;rcases hb with h|h<;>omega,by rcases hb with h|h;exact .inl h.1;exact .inr (by omega)⟩) (by omega) hB.size;refine Yx 14 (og f37 6 14) V2 (λ_=>Mh hrQ _ _ rfl (by kernel_rfl) (by kernel_rfl)) (Ce hB hbQ) ?_ yn;replace hB:Bl w wQ:=Ce hB hbQ;replace hO:=hOQ;refine Dq [15] hB<|Hi 4 ((j:Int)+1) ((j:Int)+1) ?_;exact hN1 2 (j+1,V2) ⟨hB,by show OwnN _ _ _ _ (underP (i:Int) (l.take (j+1)));rw[hst];exact hO,by show j+1<=n;omega⟩ (by show n-(j+1)<n-j;omega) (λ_=>by kernel_rfl)
   ·skip
    rw[show under1 (i:Int) (y::p,x)=[]from Ae hyi,A4]at hst;refine Ht 6 ((j:Int)<(n:Int))<|Hx 11 (og f37 5 2) (.pointer (some ⟨gE,oE+j*2,none⟩)) (λ_=>Bh 62 _ _ gE oE j n c 2 103 rfl (by kernel_rfl) (by kernel_rfl) hlt underlying62 (by kernel_rfl))<|Hx 1 (og f37 5 4) (.slice (some ⟨g1,o1,none⟩) n1 c1) (λ_=>AA 23 _ _ _ _ rfl (by kernel_rfl) ((Br hB (Af hc1)).trans hc1) underlying23 rfl)<|Ht 1 ((n1:Int)>(0:Int))<|Hx 3 (og f37 5 10) (.pointer (some ⟨gE,oE+j*2,none⟩)) (λ_=>Bh 62 _ _ gE oE j n c 2 103 rfl (by kernel_rfl) (by kernel_rfl) hlt underlying62 (by kernel_rfl))<|Hx 1 (og f37 5 12) (.slice (some ⟨g1,o1,none⟩) n1 c1) (λ_=>AA 23 _ _ _ _ rfl (by kernel_rfl) ((Br hB (Af hc1)).trans hc1) underlying23 rfl)<|Hx 0 (og f37 5 13) (.pointer (some ⟨g1,o1+0*1,none⟩)) (λ_=>Bh 23 _ _ g1 o1 0 n1 c1 1 5 rfl (by kernel_rfl) (by kernel_rfl) hn1 underlying23 (by kernel_rfl))<|Hx 0 (og f37 5 14) (.int .u8 y) (λ_=>AA 5 _ _ _ _ rfl (by kernel_rfl) ((Br hB (Af hcb)).trans hcb) underlying5 rfl)<|Hw 0 (.int .i64 (IntKind.i64.wrap y)) (.int .i64 y) (Au (Value.int .i64) (Ec (by omega) (by omega)))<|Hb 1 ((y:Int)==(i:Int)) false (Bp.2 hyi)<|Hi 9 ((j:Int)+1) ((j:Int)+1) ?_;exact hN1 2 (j+1,V) ⟨hB,by show OwnN _ _ _ _ (underP (i:Int) (l.take (j+1)));rw[hst];exact hO,by show j+1<=n;omega⟩ (by show n-(j+1)<n-j;omega) (λ_=>by kernel_rfl)
 obtain rfl:j=n:=by omega
 rw[A8 (by omega)]at hO;refine Hf 6 ((j:Int)<(j:Int)) ?_;obtain⟨aF,cF,vsF,eF,hF⟩:=hO.pat
 subst eF;exact Hr 15 (.slice aF (underP (i:Int) l).length cF) ⟨_,rfl,⟨aF,_,cF,vsF,rfl,hF⟩,hB⟩
end Go.Proofs.YtefhepcplempkaaGreat
namespace Go.Proofs.YtefhepcplempkaaGreat
open Di (dref)
theorem QQ(a:Option Addr)(n c:Nat)(b:List Int)(w:World)(h:Ag w a n c b)(hn:n<=140737488351232):Calls prog 58 #[.slice a n c] w (RfPost w b):=by
 have hl:=h.l;by_cases h32:n<32
 ·have hr:referP b=⟨1,z32,b⟩:=by unfold referP;rw[Ai (by omega)]
  unfold RfPost;rw[hr];have h32i:(n:Int)<32:=by omega
  have HAG:=ZQ h;have HLB:=ZQ hl;clear hr h hl;go_enter func58,ntmps58;go_upto_region 1 with fail;refine gen_w (p:=λv=>Code.wp _ _ _ _ v) (q:=λv=>v.heap[w.heap.size]?=some (.cells rz.cells.toArray 65)/\Below w.heap.size w v/\w.heap.size+1<=v.heap.size) ⟨Aj _ _,below_new _ _,by simp⟩ ?_;rintro v⟨hrow,hb,hsz⟩;have HROW:=ZQ hrow;have HB:=ZQ hb;have HSZ:=ZQ hsz;have HA2:=ZQ (ZE HAG.out hb);clear hrow hb hsz;go_upto_region 2 with fail;rename_i KK hkk;refine Dm<|NQ 6 (.slice (some ⟨v.heap.size,0,none⟩) 0 0) rfl (by kernel_rfl) (X1 rfl)<|Bv 7 (.slice a n c) rfl (by kernel_rfl) (by kernel_rfl) ?_;have hag2:=HA2.out.at (below_new v (.cells #[] 5));refine DL rfl (.tmp 6) (.tmp 7) rfl v.heap.size _ [] (by kernel_rfl) (OwnB.new v) a n c b (by kernel_rfl) hag2.i hag2.nil hag2.l (by simp;omega) (by simp) ?_;intro v1 w1 o1 hb1;rw[AL]at o1;obtain⟨a1,c1,rfl,hag⟩:=o1.ag HAG.out.b;rw[HLB.out]at hag⊢;have hbv:Below v.heap.size v w1:=(below_new v (.cells #[] 5)).trans hb1;have hrow1:=Below.row hbv HROW.out;have hfz:Fr v.heap.size w1 a1 n:=λg off e h0=>by
   rcases o1.2 with⟨hx,_⟩|⟨g',cap',cur,hx,hg',hh,_⟩
   ·injection hx with e1;rw[e1]at e;cases e
   ·cases hx;cases e;exact⟨hg',λo=>AY _ _ _ _ _ hh⟩
  refine Bv 9 (.agg (RV.cells ⟨1,z32,a1,n,c1⟩).toArray) rfl (by kernel_rfl) (Eo 65 _ rfl [(0, .int .i64 1),(2, .slice a1 n c1)] (by kernel_rfl) _ (Vd _ _ _))<|FO rfl (by kernel_rfl) (DG 65 _ _ rfl w.heap.size (RV.cells ⟨1,z32,a1,n,c1⟩).toArray (by kernel_rfl) (by kernel_rfl) 65 rz.cells.toArray hrow1 (Dn rfl) (DA rfl) (Al (RV.one _)))<|hkk _ _<|Og (post:=λe w'=>(∃y:RV,e= .returned (.agg y.cells.toArray)/\RefAt (Own w.heap.size w') w' y ⟨1,z32,b⟩)/\Below w.heap.size w w') results58 (λh=>h) w.heap.size ⟨1,z32,a1,n,c1⟩ rfl (by kernel_rfl) (by kernel_rfl) (AE _ _ _ _ _ _ hrow1) ?_;refine⟨⟨⟨1,z32,a1,n,c1⟩,rfl,rfl,rfl,J8,rfl,(show AgK (Own v.heap.size w1) w1 a1 n c1 b from⟨hag,by omega,λg off e h0=>hfz g off e h0⟩).go (Keep.setRow (base:=v.heap.size) (base':=w.heap.size) (g:=w.heap.size) (by have:=HSZ.out;omega) (by have:=HSZ.out;omega))⟩,Below.setRow (below_go HB.out hbv) (Aa _) _⟩
 ·have hr:referP b=⟨2,dref b,[]⟩:=by unfold referP;rw[Ae (by omega)]
  unfold RfPost;rw[hr];have h32i:¬(n:Int)<32:=by omega
  have HOF:=ZQ (λv(hv:Below w.heap.size w v)=>LQ a n c b v (h.at hv) hn);have HDL:=ZQ (dref_len b);have HDB:=ZQ (J7 b);obtain⟨ds,hds⟩:∃ds,dref b=ds:=⟨_,rfl⟩;rw[hds]at HOF HDL HDB⊢;clear hr h hl hds;go_enter func58,ntmps58;go_upto_region 1 with fail;refine gen_w (p:=λv=>Code.wp _ _ _ _ v) (q:=λv=>v.heap[w.heap.size]?=some (.cells rz.cells.toArray 65)/\Below w.heap.size w v) ⟨Aj _ _,below_new _ _⟩ ?_;rintro v⟨hrow,hb⟩;have HROW:=ZQ hrow;have HB:=ZQ hb;clear hrow hb;go_upto_region 3 with fail;rename_i KK hkk;refine Dm<|Bv 10 (.slice a n c) rfl (by kernel_rfl) (by kernel_rfl)<|Lb 11 rfl (by kernel_rfl) 41 #[.slice a n c] (by kernel_rfl) (R:=λval w'=>val= .agg (B8 ds)/\Below v.heap.size v w') ((HOF.out v HB.out).mono (λe w' h=>⟨_,h.1,rfl,h.2⟩)) ?_;rintro val w1⟨rfl,hb1⟩;have hrow1:=Below.row hb1 HROW.out;refine Bv 12 (.agg (RV.cells ⟨2,ds,none,0,0⟩).toArray) rfl (by kernel_rfl) (Eo 65 _ rfl [(0, .int .i64 2),(1, .agg (B8 ds))] (by kernel_rfl) _ (Kd ds HDL.out))<|FO rfl (by kernel_rfl) (DG 65 _ _ rfl w.heap.size (RV.cells ⟨2,ds,none,0,0⟩).toArray (by kernel_rfl) (by kernel_rfl) 65 rz.cells.toArray hrow1 (Dn HDL.out) (DA HDL.out) (Al (RV.one _)))<|hkk _ _<|Og (post:=λe w'=>(∃y:RV,e= .returned (.agg y.cells.toArray)/\RefAt (Own w.heap.size w') w' y ⟨2,ds,[]⟩)/\Below w.heap.size w w') results58 (λh=>h) w.heap.size ⟨2,ds,none,0,0⟩ HDL.out (by kernel_rfl) (by kernel_rfl) (AE _ _ _ _ _ _ hrow1) ?_;exact⟨⟨⟨2,ds,none,0,0⟩,rfl,rfl,rfl,HDB.out,HDL.out,FP _ _⟩,Below.setRow (below_go HB.out hb1) (Aa _) _⟩
end Go.Proofs.YtefhepcplempkaaGreat
namespace Go.Proofs.YtefhepcplempkaaGreat
open Tr
variable {K : Nat → Prop} {w : World} {a : Option Addr} {n c : Nat} {p x : List Int} {vs : List (Value × Value)}
def RN7(w:World)(t:Tr):Value->World->Prop:=λu w'=>(∃y:NV,u= .agg y.cells.toArray/\NodeAt (λ_=>True) w' y (nodeP t))/\Bl w w'
def RNK(K:Nat->Prop)(w:World)(t:Tr):Value->World->Prop:=λu w'=>(∃y:NV,u= .agg y.cells.toArray/\NodeAt (λ_=>True) w' y (nodeP t)/\Sk K w' y.pa y.pn y.pc (nodeP t).p)/\Bl w w'
theorem RNK.rn{w':World}{t:Tr}{u:Value}(h:RNK K w t u w'):RN7 w t u w':=by
 obtain⟨⟨y,e1,h1,_⟩,h2⟩:=h;exact⟨⟨y,e1,h1⟩,h2⟩
def RB7(w:World)(t:Tr):Value->World->Prop:=λu w'=>(∃a m c,u= .slice a m c/\Sk (λb=>w.heap.size<=b) w' a m c (encT t)/\m<=65540)/\Bl w w'
theorem S9{b:List Int}(h:Sk (λ_=>True) w a n c b)(hn:n<=140737488351232):
 Calls prog 58 #[.slice a n c] w λe w'=>∃u,e= .returned u/\(∃y:RV,u= .agg y.cells.toArray/\RefAt (Own w.heap.size w') w' y (referP b))/\Bl w w':=
 (QQ a n c b w h.ag hn).mono (λe w'⟨⟨y,e1,h1⟩,h2⟩=>⟨_,e1,⟨y,rfl,h1⟩,h2⟩)
theorem Mj{t:Tr}{k:List Int}{j:Nat}(h:(entsR (ext p t))[j]?=some (k,x)):k.take p.length=p/\p.length<=k.length:=by
 have h2:((entsR t).map λe=>(p++e.1,e.2))[j]?=some (k,x):=h;rw[C6]at h2;cases hq:(entsR t)[j]? with
 |none=>rw[hq]at h2;cases h2
 |some e=>
  rw[hq]at h2;simp only[CA,C5,CM]at h2;rw[<-h2.1];exact⟨CX,by simp⟩
theorem Mk(hl:PAt K w a 1 c vs [(p,x)])(hp:p.length<=1000)(hx:x.length<=256):
 Calls prog 33 #[.slice a 1 c] w λe w'=>∃u,e= .returned u/\RNK K w (leaf p x) u w':=by
 have hB:=Bl.refl w;have h0n:0<1:=by omega
 obtain⟨gE,oE,a1,n1,c1,a2,n2,c2,k,y,ea,hej,hc1,hc2,hs1,hs2⟩:=hl.at h0n;subst ea;cases hej;have lk:=hs1.len;have lx:=hs2.len;refine EO func33 78<|Hn 2 nz.cells.toArray 68 ?_;intro wN gN hnN hrN;have hgN:=hnN.hg;have hszN:=hB.size;replace hB:=hB.go hnN.below;refine Hj 12 (λv=>Bl w v) (hB.drew) ?_;replace hB:=hB.drew;refine Dx [0] 1 (og f33 2 1) (.pointer (some ⟨gE,oE+0*2,none⟩)) (λv hv _=>Bh 62 _ _ gE oE 0 1 c 2 103 rfl (by kernel_rfl) (by kernel_rfl) h0n underlying62 (by kernel_rfl)) hB<|Dx [2] 3 (og f33 2 3) (.slice a1 n1 c1) (λv hv _=>AA 23 _ _ _ _ rfl (by kernel_rfl) ((Br hv (Af hc1)).trans hc1) underlying23 rfl) hB<|Dx [4] 5 (og f33 2 5) (.pointer (some ⟨gE,oE+0*2,none⟩)) (λv hv _=>Bh 62 _ _ gE oE 0 1 c 2 103 rfl (by kernel_rfl) (by kernel_rfl) h0n underlying62 (by kernel_rfl)) hB<|Dx [6] 7 (og f33 2 7) (.slice a2 n2 c2) (λv hv _=>AA 23 _ _ _ _ rfl (by kernel_rfl) ((Br hv (Af hc2)).trans hc2) underlying23 rfl) hB<|Dx [] 8 (og f33 2 8) (.agg (NV.cells ⟨1,a1,n1,c1,a2,n2,c2,rz,none,0,0⟩).toArray) (λv hv _=>Ep 68 _ [(0, .int .i64 1),(1, .slice a1 n1 c1),(2, .slice a2 n2 c2)] _ rfl (by kernel_rfl) (Ig _ _ _ _ _ _)) hB<|Dz [9] ?_;replace hrN:=hrN.drew;refine Yy 9 (og f33 2 9) gN ((NV.cells ⟨1,a1,n1,c1,a2,n2,c2,rz,none,0,0⟩).toArray) (λ_=>BP 68 _ _ _ _ _ _ rfl (by kernel_rfl) (by kernel_rfl) hrN (by kernel_rfl) (by kernel_rfl) (by kernel_rfl)) (λw' h=>h.below hB (by omega) hB.size) ?_ yn;intro w1 hp2;have hrC:Rw gN w1 (NV.cells ⟨1,a1,n1,c1,a2,n2,c2,rz,none,0,0⟩).toArray 68:=hp2.row hrN;replace hB:=hp2.below hB (by omega) hB.size;refine Do ?_;exact OB 3 (.agg (NV.cells ⟨1,a1,n1,c1,a2,n2,c2,rz,none,0,0⟩).toArray) (λ_=>Ev results33 _ gN ⟨1,a1,n1,c1,a2,n2,c2,rz,none,0,0⟩ rfl (by kernel_rfl) hrC) ⟨_,rfl,⟨⟨1,a1,n1,c1,a2,n2,c2,rz,none,0,0⟩,rfl,⟨rfl,(hs1.go hB).agk (by omega),(hs2.go hB).agk (by omega),GH _,⟨rfl,Aa _,AD _,AD _,λ_=>⟨rfl,rfl⟩⟩,λj r hr=>by simp[nodeP]at hr⟩,hs1.go hB⟩,hB⟩
theorem Nl{t:Tr}{B:Nat}(hO:Tr.Ok B (ext p t))(hB64:B<=64)(hl:PAt K w a n c vs (entsR (ext p t)))(hb:n<=2932031007400)(hlen:∀(j:Nat) k x,(entsR (ext p t))[j]?=some (k,x)->k.length<=1000000)(hBy:∀v,Bl w v->∀K' a' n' c' vs',PAt K' v a' n' c' vs' (entsR t)->n'<=2932031007400->Calls prog 34 #[.slice a' n' c'] v λe w'=>∃u,e= .returned u/\RB7 v t u w'):
 Calls prog 33 #[.slice a n c] w λe w'=>∃u,e= .returned u/\RNK K w (ext p t) u w':=by
 have hB:=Bl.refl w;have ll:=hl.ll;have h2n:=XD hO;have h0n:0<n:=by omega
 have hpl:0<p.length:=Bx.2 hO.2.1;have hpB:=hO.2.2.1;obtain⟨gE,oE,a1,n1,c1,a2,n2,c2,k,y0,ea,hej,hc1,hc2,hs1,hs2⟩:=hl.at h0n;subst ea;obtain⟨hkp,hkl⟩:=Mj hej;have lk:=hs1.len;obtain⟨a6,n6,c6,hr7,hs7⟩:=hs1.cutTo p.length (by omega);rw[hkp]at hs7;have l7:=hs7.len;refine EO func33 78<|Hn 2 nz.cells.toArray 68 ?_;intro wN gN hnN hrN;have hgN:=hnN.hg;have hszN:=hB.size;refine Hz 7 (n:Int) (1:Int) ?_;replace hB:=hB.go hnN.below;refine Hc 8 (R:=λu w'=>u= .int .i64 ((p.length:Nat):Int)/\Bl (wN) w') ((Nk (hl.go hB) hb h0n hlen).mono (λe w'⟨u,e1,e2,e3⟩=>⟨u,e1,by rw[e2,TM hO],e3⟩)) ?_;rintro _ u1⟨rfl,hb3⟩;refine Ht 7 (((p.length:Nat):Int)>(0:Int)) ?_;replace hB:=hB.go hb3;refine Hj 4 (λv=>Bl w v) (hB.drew) ?_;replace hB:=hB.drew;refine Dx [0] 1 (og f33 5 1) (.pointer (some ⟨gE,oE+0*2,none⟩)) (λv hv _=>Bh 62 _ _ gE oE 0 n c 2 103 rfl (by kernel_rfl) (by kernel_rfl) h0n underlying62 (by kernel_rfl)) hB<|Dx [2] 3 (og f33 5 3) (.slice a1 n1 c1) (λv hv _=>AA 23 _ _ _ _ rfl (by kernel_rfl) ((Br hv (Af hc1)).trans hc1) underlying23 rfl) hB<|Dx [4] 5 (og f33 5 5) (.slice a6 n6 c6) (λv hv _=>hr7 _ _ _ _ _ _ rfl (by kernel_rfl) (by kernel_rfl) rfl) hB<|Dy [6,7] [8] hB ?_;refine Yc 8 (R:=λu w'=>(∃a' m' c' vs',u= .slice a' m' c'/\PAt (λb=>K b∨(u1.drew).heap.size<=b) w' a' m' c' vs' (entsR t))/\Bl (u1.drew) w') ((KH (hl.go hB) hb (λj k x h=>(Mj h).2)).mono (λe w'⟨u,e1,⟨a',m',c',vs',e2,e3⟩,e4⟩=>⟨u,e1,⟨a',m',c',vs',e2,by rw[KG]at e3;exact e3⟩,e4⟩)) (λu w' h=>hB.go h.2) ?_ yn;rintro _ u2⟨⟨a8,m8,c8,vs8,rfl,hP8⟩,hb8⟩;have l8:=hP8.ll;have lE:(entsR (ext p t)).length=(entsR t).length:=by simp[entsR]
 refine Dz [9] ?_;replace hB:=hB.go hb8;refine Yc 9 (R:=RB7 (u2) t) (hBy _ hB _ _ _ _ _ hP8 (by omega)) (λu w' h=>hB.go h.2) ?_ yn;rintro _ u3⟨⟨a9,m9,c9,rfl,hs9,hm9⟩,hb9⟩;have l9:=hs9.len;refine Dz [10] ?_;replace hB:=hB.go hb9;refine Yc 10 (R:=λu w'=>(∃y:RV,u= .agg y.cells.toArray/\RefAt (Own (u3).heap.size w') w' y (referP (encT t)))/\Bl (u3) w') (S9 (hs9.mono (λ_ _=>trivial)) (by omega)) (λu w' h=>hB.go h.2) ?_ yn;rintro _ u4⟨⟨y,rfl,hRf⟩,hb10⟩;replace hrN:=(((hrN.go hb3).drew).go hb8).go hb9;have hq10:gN<_:=lt_of_get hrN;have hyl:y.d.length=32:=by rw[hRf.2.1];exact hRf.2.2.2.1
 replace hB:=hB.go hb10;refine Dx [] 11 (og f33 5 11) (.agg (NV.cells ⟨2,a6,n6,c6,none,0,0,y,none,0,0⟩).toArray) (λv hv _=>Ep 68 _ [(0, .int .i64 2),(1, .slice a6 n6 c6),(3, .agg y.cells.toArray)] _ rfl (by kernel_rfl) (G8 _ _ _ _ hyl)) hB<|Dz [12] ?_;replace hrN:=hrN.go hb10;refine Yy 12 (og f33 5 12) gN ((NV.cells ⟨2,a6,n6,c6,none,0,0,y,none,0,0⟩).toArray) (λ_=>BP 68 _ _ _ _ _ _ rfl (by kernel_rfl) (by kernel_rfl) hrN (by rw[E7,Db (y:=⟨2,a6,n6,c6,none,0,0,y,none,0,0⟩) hyl]) (by rw[Db (y:=⟨2,a6,n6,c6,none,0,0,y,none,0,0⟩) hyl];rfl) (Gj _)) (λw' h=>h.below hB (by omega) hB.size) ?_ yn;intro w5 hp6;have hrC:Rw gN w5 (NV.cells ⟨2,a6,n6,c6,none,0,0,y,none,0,0⟩).toArray 68:=hp6.row hrN;replace hB:=hp6.below hB (by omega) hB.size;have hRE:=RefAt.go (L:=λ_=>True) (λb hb _=>⟨hp6.other (by have:=hb.1;omega),trivial⟩) hRf;refine Do ?_;exact OB 3 (.agg (NV.cells ⟨2,a6,n6,c6,none,0,0,y,none,0,0⟩).toArray) (λ_=>Ev results33 _ gN ⟨2,a6,n6,c6,none,0,0,y,none,0,0⟩ hyl (by kernel_rfl) hrC) ⟨_,rfl,⟨⟨2,a6,n6,c6,none,0,0,y,none,0,0⟩,rfl,⟨rfl,(hs7.go hB).agk (by omega),JG _,hRE,⟨rfl,Aa _,AD _,AD _,λ_=>⟨rfl,rfl⟩⟩,λj r hr=>by simp[nodeP]at hr⟩,hs7.go hB⟩,hB⟩
end Go.Proofs.YtefhepcplempkaaGreat
namespace Go.Proofs.YtefhepcplempkaaGreat
open Ni (rightP)
def emptyP(r:PR):Bool:=decide (r.k=0)&&decide (r.d=z32)&&decide (r.i.length=0)
def refersP(dk:List Int->Int)(r:PR)(br:Bool):Bool:=
 if r.k=0 then emptyP r&&!br
 else if r.k=2 then decide (r.i.length=0)
 else if r.k=1 then(if 32<=r.i.length∨r.d≠z32 then false else decide (dk r.i≠0)&&(!br||decide (dk r.i=3)))
 else false
def refers16(dk:List Int->Int)(ks:List PR):Bool:=ks.all λr=>refersP dk r false
def drightP(dk:List Int->Int)(n:PN):Bool:=
 if rightP n.p=false∨64<n.p.length∨256<n.v.length then false
 else if n.k=1 then decide (1<=n.v.length)&&emptyP n.c&&decide (n.ks.length=0)
 else if n.k=2 then refersP dk n.c true&&decide (1<=n.p.length)&&decide (n.v.length=0)&&decide (n.ks.length=0)
 else if n.k≠3∨n.ks.length≠16∨n.p.length≠0∨emptyP n.c=false then false
 else refers16 dk n.ks&&(decide (2<=ways n.ks)||(decide (ways n.ks=1)&&decide (0<n.v.length)))
theorem Ou(dk:List Int->Int)(r:PR):refersP dk r false=rrefP dk r:=by
 unfold refersP rrefP emptyP;by_cases h0:r.k=0
 ·simp[h0]
 ·by_cases h2:r.k=2
  ·simp[h2]
  ·by_cases h1:r.k=1
   ·by_cases h32:32<=r.i.length
    ·simp[h1,h32,show¬r.i.length<32 from by omega]
    ·by_cases hd:r.d=z32
     ·simp[h1,hd,show r.i.length<32 from by omega,show¬32<=r.i.length from h32]
     ·simp[h1,hd]
   ·simp[h0,h1,h2]
theorem TT(dk:List Int->Int)(r:PR):emptyP r=(rrefP dk r&&decide (r.k=0)):=by
 unfold emptyP rrefP;by_cases h0:r.k=0
 ·simp[h0]
 ·simp[h0]
theorem P4(dk:List Int->Int)(h0:dk []=0)(r:PR):refersP dk r true=(rrefP dk r&&(decide (r.k=2)||decide (dk r.i=3))):=by
 unfold refersP rrefP emptyP;by_cases hk0:r.k=0
 ·by_cases hi:r.i=[]
  ·simp[hk0,hi,h0]
  ·simp[hk0,hi]
 ·by_cases h2:r.k=2
  ·simp[h2]
  ·by_cases h1:r.k=1
   ·by_cases h32:32<=r.i.length
    ·simp[h1,h32,show¬r.i.length<32 from by omega]
    ·by_cases hd:r.d=z32
     ·simp[h1,hd,show r.i.length<32 from by omega,show¬32<=r.i.length from h32]
     ·simp[h1,hd]
   ·simp[hk0,h1,h2]
theorem TU(dk:List Int->Int)(h0:dk []=0)(n:PN):drightP dk n=nright dk n:=by
 unfold drightP nright knownP rpathP rvalueP rchildP rkidsP refers16;rw[P4 dk h0,TT dk];have hall:(n.ks.all λr=>refersP dk r false)=n.ks.all (rrefP dk):=by congr 1;funext r;exact Ou dk r
 rw[hall];have hp0:n.p.length=0->rightP n.p=true:=λh=>by rw[A3 h];rfl
 by_cases k1:n.k=1
 ·by_cases hp:rightP n.p=true
  ·by_cases hl:n.p.length<=64
   ·by_cases hv:n.v.length<=256
    ·cases hr:rrefP dk n.c
     ·simp[k1,hp]
     ·by_cases hv0:n.v=[]
      ·simp[k1,hp,hv0]
      ·have:1<=n.v.length:=Bx.2 hv0;by_cases hc:n.c.k=0
       ·simp[k1,hp,hv0,hl,hv,this,hc,show¬64<n.p.length from by omega,show¬256<n.v.length from by omega]
       ·simp[k1,hp,hv0,hl,hv,this,hc]
    ·simp[k1,hv,show 256<n.v.length from by omega]
   ·simp[k1,hl,show 64<n.p.length from by omega]
  ·simp[k1,hp]
 ·by_cases k2:n.k=2
  ·by_cases hp:rightP n.p=true
   ·by_cases hl:n.p.length<=64
    ·by_cases hp0':n.p=[]
     ·simp[k2,hp0']
     ·have h1:1<=n.p.length:=Bx.2 hp0';by_cases hv0:n.v=[]
      ·cases hr:rrefP dk n.c
       ·simp[k2,hp,hv0]
       ·simp[k2,hp,hv0,hl,hp0',h1,show¬64<n.p.length from by omega]
      ·simp[k2,hv0]
    ·simp[k2,hl,show 64<n.p.length from by omega]
   ·simp[k2,hp]
  ·by_cases k3:n.k=3
   ·by_cases hp0':n.p=[]
    ·have hp:rightP n.p=true:=hp0 (by rw[hp0'];rfl);rw[hp0']at hp;by_cases hv:n.v.length<=256
     ·cases hr:rrefP dk n.c
      ·simp[k3,hp0']
      ·by_cases hc:n.c.k=0
       ·by_cases h16:n.ks.length=16
        ·by_cases hvp:0<n.v.length
         ·simp only[k3,hp0',hp,hc,h16,hvp];simp[hv,show¬256<n.v.length from by omega];congr 1;rw[Bj];simp;omega
         ·simp only[k3,hp0',hp,hc,h16,hvp];simp[hv,show¬256<n.v.length from by omega]
        ·simp[k3,hp0',h16]
       ·simp[k3,hp0',hc]
     ·simp[k3,hv,show 256<n.v.length from by omega]
    ·simp[k3,hp0']
   ·simp[k1,k2,k3]
end Go.Proofs.YtefhepcplempkaaGreat
namespace Go.Proofs.YtefhepcplempkaaGreat
theorem Ml(K:Nat->Prop)(x:RV)(r:PR)(w:World)(h:RefAt K w x r):
 Calls prog 120 #[.agg x.cells.toArray] w λe w'=>e= .returned (.bool (emptyP r))/\Below w.heap.size w w':=by
 have B:=J4 w x h.len;have HB:=ZQ (below_new w (.cells x.cells.toArray 65));obtain⟨res,hres⟩:∃res,emptyP r=res:=⟨_,rfl⟩;rw[hres];unfold emptyP at hres;rw[<-h.1,<-h.2.1,h.2.2.2.2.l]at hres;have HRES:=ZQ hres;have hl:=h.len;have hnb:=h.2.2.2.2.2.1;clear h hres;go_enter func120,ntmps120;go_upto_region 1 with fail;refine gen_w (p:=λv=>Code.wp _ _ _ _ v) (q:=λv=>RBx w.heap.size v x/\Below w.heap.size w v) ⟨B,HB.out⟩ ?_;clear B HB;rintro v⟨B,hb⟩;have HB:=ZQ hb;have HX:=ZQ B;have HLX:=ZQ hl;have c0:=B.c0;have c1:=B.c33;clear hb B hl;by_cases h0:x.k=0
 ·by_cases hz:x.d=z32
  ·have HQ:=ZQ (show(x.d==z32)=true from by simp[hz]);have HZ:=ZQ hz;clear hz;go_wp2_with (first|refine EJ rfl _ rfl w.heap.size 1 rfl x.d HLX.out HX.out.digest ?_|refine GR rfl _ _ rfl x.d z32 rfl rfl HLX.out E4 true HQ.out ?_);go_ret;refine⟨Au (λb=>Ending.returned (Value.bool b)) ?_,HB.out⟩;rw[<-HRES.out,Bj]
   first|(simp[h0,HZ.out];done)|(simp[h0,HZ.out];omega)
  ·have HQ:=ZQ (show(x.d==z32)=false from by simp[hz]);have HZ:=ZQ hz;clear hz;go_wp2_with (first|refine EJ rfl _ rfl w.heap.size 1 rfl x.d HLX.out HX.out.digest ?_|refine GR rfl _ _ rfl x.d z32 rfl rfl HLX.out E4 false HQ.out ?_);go_ret;refine⟨Au (λb=>Ending.returned (Value.bool b)) ?_,HB.out⟩;rw[<-HRES.out,Bj]
   first|(simp[h0,HZ.out];done)|(simp[h0,HZ.out];omega)
 ·go_wp2_with fail;go_ret;refine⟨Au (λb=>Ending.returned (Value.bool b)) ?_,HB.out⟩;rw[<-HRES.out,Bj]
  first|(simp[h0];done)|(simp[h0];omega)
def DDPost(w:World)(o:Option PN):Ending->World->Prop:=λe w'=>Below w.heap.size w w'/\
 match o with
 |none=>e= .returned (.tuple #[.agg nz.cells.toArray, .int .i64 50])
 |some n=>∃y:NV,e= .returned (.tuple #[.agg y.cells.toArray, .int .i64 0])/\NodeAt (λg=>w.heap.size<=g) w' y n
def DDSaid(b:List Int):Prop:=∀(a:Option Addr)(n c:Nat)(w:World),Ag w a n c b->n<=140737488351232->Calls prog 71 #[.slice a n c] w (DDPost w (ND b))
theorem XM{b:List Int}(hb:isB b){w:World}{e:Ending}{w':World}(h:DDPost w (ND b) e w'):Below w.heap.size w w'/\∃y:NV,e= .returned (.tuple #[.agg y.cells.toArray, .int .i64 (if KD b=0 then 50 else 0)])/\y.k=KD b/\y.c.d.length=32:=by
 obtain⟨hb',hm⟩:=h;refine⟨hb',?_⟩;unfold KD;cases ho:ND b with
 |none=>rw[ho]at hm;exact⟨nz,hm,rfl,rfl⟩
 |some n=>
  rw[ho]at hm;obtain⟨y,e1,hy⟩:=hm;have h0:¬kd (some n)=0:=by
   have:=NM (MP hb ho).1;show¬n.k=0;omega
  rw[Ae h0];exact⟨y,e1,hy.k,hy.c.len⟩
theorem P5{br:Bool}(dk:Int):(decide (dk≠0)&&(!br||decide (dk=3)))=if dk=0 then false else if br=true then decide (dk=3)else true:=by
 cases br<;>by_cases h:dk=0<;>simp[h]
theorem Mm(K:Nat->Prop)(x:RV)(r:PR)(br:Bool)(w:World)(h:RefAt K w x r)(hd:r.i.length<32->DDSaid r.i):
 Calls prog 121 #[.agg x.cells.toArray, .bool br] w λe w'=>e= .returned (.bool (refersP KD r br))/\Below w.heap.size w w':=by
 have B:=J4 w x h.len;have HB:=ZQ (below_new w (.cells x.cells.toArray 65));have HE:=ZQ (show∀v,Below w.heap.size w v->Calls prog 120 #[.agg x.cells.toArray] v λe w'=>e= .returned (.bool (emptyP r))/\Below v.heap.size v w' from λv hv=>Ml K x r v (h.go (Keep.below hv)));have HD:=ZQ (show x.n<32->∀v,Below w.heap.size w v->Calls prog 71 #[.slice x.a x.n x.c] v (DDPost v (ND r.i))from λhx v hv=>hd (by rw[h.2.2.2.2.l];exact hx) _ _ _ v (h.2.2.2.2.1.at hv) h.2.2.2.2.2.1);have HIB:=ZQ h.2.2.2.2.1.b;obtain⟨res,hres⟩:∃res,refersP KD r br=res:=⟨_,rfl⟩;obtain⟨kr,hkr⟩:∃kr,KD r.i=kr:=⟨_,rfl⟩;obtain⟨em,hem⟩:∃em,emptyP r=em:=⟨_,rfl⟩;rw[hres];rw[hem]at HE;unfold refersP at hres;rw[P5,hkr,hem,<-h.1,<-h.2.1,h.2.2.2.2.l]at hres;have HRES:=ZQ hres;have HKR:=ZQ hkr;have hl:=h.len;have hnb:=h.2.2.2.2.2.1;clear h hd hkr hres hem;go_enter func121,ntmps121;go_upto_region 1 with fail;refine gen_w (p:=λv=>Code.wp _ _ _ _ v) (q:=λv=>RBx w.heap.size v x/\Below w.heap.size w v) ⟨B,HB.out⟩ ?_;clear B HB;rintro v⟨B,hb⟩;have HB:=ZQ hb;have HX:=ZQ B;have HLX:=ZQ hl;have c0:=B.c0;have c1:=B.c33;clear hb B hl;by_cases h0:x.k=0
 ·go_wp2_with (first|refine Cy rfl _ rfl w.heap.size 0 rfl x HLX.out HX.out.all ?_);refine(HE.out v HB.out).mono ?_;rintro e w1⟨rfl,hb1⟩;have HB1:=ZQ (below_go HB.out hb1);clear hb1;cases br<;>cases em
  all_goals go_wp2_with fail
  all_goals go_ret
  all_goals refine⟨Au (λb=>Ending.returned (Value.bool b)) ?_,HB1.out⟩
  all_goals rw[<-HRES.out]
  all_goals simp[h0]
 ·by_cases h2:x.k=2
  ·go_wp2_with fail;go_ret;refine⟨Au (λb=>Ending.returned (Value.bool b)) ?_,HB.out⟩;rw[<-HRES.out,Bj]
   first|(simp[h2];done)|(simp[h2];omega)
  ·by_cases h1:x.k=1
   ·by_cases h32:x.n<32
    ·have hi32:¬(x.n:Int)>=32:=(by omega);by_cases hz:x.d=z32
     ·have HQ:=ZQ (show(!(x.d==z32))=false from by simp[hz]);have HZ:=ZQ hz;clear hz;go_wp2_with (first|refine EJ rfl _ rfl w.heap.size 1 rfl x.d HLX.out HX.out.digest ?_|refine GS rfl _ _ rfl x.d z32 rfl rfl HLX.out E4 false HQ.out ?_);refine(HD.out h32 v HB.out).mono ?_;intro e w1 hp;obtain⟨hb1,y,rfl,hyk,hyl⟩:=XM HIB.out hp;rw[HKR.out]at hyk;rw[HKR.out];have HB1:=ZQ (below_go HB.out hb1);have HS:=ZQ (show(nz.cells.toArray:Array Value).size=y.cells.toArray.size from by rw[Vc,Bd,NV.len hyl]);have HI:=ZQ (show(prog.info? 68).map (·.size)=some y.cells.toArray.size from by rw[E7,Bd,NV.len hyl]);have HO:=ZQ (Al y.one);have HYK:=ZQ hyk;have HYL:=ZQ hyl;clear hp hb1 hyk hyl HD HB c0 c1;obtain⟨er,her⟩:∃er:Int,(if kr=0 then(50:Int)else 0)=er:=⟨_,rfl⟩;rw[her];have HER:=ZQ her;clear her;go_upto_region 10 with(first|refine A7 rfl 68 _ _ rfl _ y.cells.toArray rfl rfl 68 _ (Aj w1 _) HI.out HS.out HO.out ?_);refine gen_w (p:=λv=>Code.wp _ _ _ _ v) (q:=λv=>NBx w1.heap.size v y/\Below w.heap.size w v) ⟨⟨AE _ _ _ _ _ _ (Aj w1 _),HYL.out⟩,Below.setRow (HB1.out.alloc HB1.out.size _) HB1.out.size _⟩ ?_;rintro v2⟨B,hb⟩;have d0:=B.c0;rw[HYK.out]at d0;have HB2:=ZQ hb;clear B hb;by_cases hk0:kr=0
      ·have her:=HER.out;rw[Ai hk0]at her;subst her;go_wp2_with fail;go_ret;refine⟨Au (λb=>Ending.returned (Value.bool b)) ?_,HB2.out⟩;rw[<-HRES.out];simp[h1,hk0]
      ·have her:=HER.out;rw[Ae hk0]at her;subst her;cases br
       ·go_wp2_with fail;go_ret;refine⟨Au (λb=>Ending.returned (Value.bool b)) ?_,HB2.out⟩;rw[<-HRES.out];simp[h1,hk0,HZ.out];omega
       ·by_cases hk3:kr=3
        ·go_wp2_with fail;go_ret;refine⟨Au (λb=>Ending.returned (Value.bool b)) ?_,HB2.out⟩;rw[<-HRES.out];simp[h1,hk3,HZ.out];omega
        ·go_wp2_with fail;go_ret;refine⟨Au (λb=>Ending.returned (Value.bool b)) ?_,HB2.out⟩;rw[<-HRES.out];simp[h1,hk3]
     ·have HQ:=ZQ (show(!(x.d==z32))=true from by simp[hz]);have HZ:=ZQ hz;clear hz;go_wp2_with (first|refine EJ rfl _ rfl w.heap.size 1 rfl x.d HLX.out HX.out.digest ?_|refine GS rfl _ _ rfl x.d z32 rfl rfl HLX.out E4 true HQ.out ?_);go_ret;refine⟨Au (λb=>Ending.returned (Value.bool b)) ?_,HB.out⟩;rw[<-HRES.out];simp[h1,HZ.out]
    ·have hi32:(x.n:Int)>=32:=(by omega);go_wp2_with fail;go_ret;refine⟨Au (λb=>Ending.returned (Value.bool b)) ?_,HB.out⟩;rw[<-HRES.out];simp[h1,show 32<=x.n from by omega]
   ·go_wp2_with fail;go_ret;refine⟨Au (λb=>Ending.returned (Value.bool b)) ?_,HB.out⟩;rw[<-HRES.out];simp[h0,h2,h1]
end Go.Proofs.YtefhepcplempkaaGreat
namespace Go.Proofs.YtefhepcplempkaaGreat.Ni
theorem rright_any(a:Option Addr)(n c:Nat)(b:List Int)(w:World)(h:Ag w a n c b)(hn:n<=140737488355328):
 Calls prog 119 #[.slice a n c] w λe w'=>e= .returned (.bool (rightP b))/\w'=w:=by
 have HL:=ZQ h.l;have HC:Hid (0<n->∃g off,a=some ⟨g,off,none⟩/\n<=c/\c<=maxLen/\∀j,j<n->w.cell? ⟨g,off+j,none⟩=some (.int .u8 (b.getD j 0))):=ZQ (ag_head h);have HB:=ZQ h.b;clear h;obtain⟨res,hres⟩:∃r,rightP b=r:=⟨_,rfl⟩;rw[hres];have HRES:=ZQ hres;clear hres;go_enter func119,ntmps119;go_wp2_with fail
 go_loopw [3] (λi v=>∃j:Nat,j<=n/\i= .int .i64 j/\(∀i,i<j->b.getD i 0<=15)/\v=w) (λi _=>n-(intOf i).toNat)
 case atStart=>exact⟨0,by omega,rfl,λi hi=>by omega,rfl⟩
 case round=>
  obtain⟨j,hj,rfl,hle,rfl⟩:=hrel;have HLE:=ZQ hle;clear hle;by_cases hlt:j<n
  ·obtain⟨g,off,rfl,hnc,hcm,hcs⟩:=HC.out (by omega);unfold maxLen at hcm;have hcell:=hcs j hlt;have hx:=HB.out _ (getD_mem (show j<b.length by have:=HL.out;omega));have HX:Hid (b.getD j 0>15->rightP b=false):=ZQ (λh=>O7 (by have:=HL.out;omega) h)
   have HY:Hid (b.getD j 0<=15->∀i,i<j+1->b.getD i 0<=15):=ZQ (λh i hi=>by
    by_cases e:i=j
    ·rw[e];exact h
    ·exact HLE.out i (by omega))
   generalize b.getD j 0=x at hcell hx HX HY;obtain⟨hx0,hx1⟩:=hx;have hji:(j:Int)<n:=(by omega);clear hcs;by_cases h15:x>15
   ·have e:res=false:=HRES.out.symm.trans (HX.out h15);subst e;go_wp2_with fail;go_ret;exact⟨rfl,rfl⟩
   ·have h15':¬x>15:=h15;go_wp2_with fail;exact⟨⟨j+1,by omega,by simp,HY.out (by omega),trivial⟩,by simp[intOf];omega⟩
  ·have hji:¬(j:Int)<n:=(by omega);have e:res=true:=HRES.out.symm.trans (M8 λi hi=>HLE.out i (by have:=HL.out;omega));subst e;go_wp2_with fail;go_ret;exact⟨rfl,rfl⟩
end Go.Proofs.YtefhepcplempkaaGreat.Ni
namespace Go.Proofs.YtefhepcplempkaaGreat
open Ni (rightP)
theorem Zj:KD []=0:=by
 apply Classical.byContradiction;intro h;obtain⟨n,hn,_⟩:=Jv h;obtain⟨t,ht,_⟩:=Gv (b:=[]) (λx hx=>by simp at hx) hn;have:=GP (b:=[]) (λx hx=>by simp at hx) ht;have h1:=Jr t;rw[this.1]at h1;simp at h1
theorem Ip(K:Nat->Prop)(x:NV)(n:PN)(w:World)(h:NodeAt K w x n)(hd:∀r,(r=n.c∨r∈n.ks)->r.i.length<32->DDSaid r.i):
 Calls prog 85 #[.agg x.cells.toArray] w λe w'=>e= .returned (.bool (NR n))/\Below w.heap.size w w':=by
 have B:=ER w x h.c.len;have HB:=ZQ (below_new w (.cells x.cells.toArray 68));obtain⟨q1,hq1⟩:∃q,rightP n.p=q:=⟨_,rfl⟩;obtain⟨q2,hq2⟩:∃q,emptyP n.c=q:=⟨_,rfl⟩;obtain⟨q3,hq3⟩:∃q,refersP KD n.c true=q:=⟨_,rfl⟩;have hpb:=h.p.2.1;have hvb:=h.v.2.1
 have H1:=ZQ (show∀v,Below w.heap.size w v->Calls prog 119 #[.slice x.pa x.pn x.pc] v λe w'=>e= .returned (.bool q1)/\w'=v from λv hv=>by
  rw[<-hq1];exact Ni.rright_any _ _ _ _ v (h.p.1.at hv) (by omega))
 have H2:=ZQ (show∀v,Below w.heap.size w v->Calls prog 120 #[.agg x.c.cells.toArray] v λe w'=>e= .returned (.bool q2)/\Below v.heap.size v w' from λv hv=>by
  rw[<-hq2];exact Ml K x.c n.c v (h.c.go (Keep.below hv)))
 have H3:=ZQ (show∀v,Below w.heap.size w v->Calls prog 121 #[.agg x.c.cells.toArray, .bool true] v λe w'=>e= .returned (.bool q3)/\Below v.heap.size v w' from λv hv=>by
  rw[<-hq3];exact Mm K x.c n.c true v (h.c.go (Keep.below hv)) (hd _ (.inl rfl)))
 have HD:=ZQ (show∀r∈n.ks,r.i.length<32->DDSaid r.i from λr hr=>hd r (.inr hr));have HKS:=ZQ h.ks;have hm:=h.m;have HKL:=ZQ hm.1;obtain⟨-,hm2,hm3,hm4,hm5⟩:=hm;unfold maxLen at hm3;have HM5:=ZQ hm5;obtain⟨res,hres⟩:∃res,NR n=res:=⟨_,rfl⟩;rw[hres];unfold NR at hres;rw[<-TU KD Zj]at hres;unfold drightP at hres;rw[hq1,hq2,hq3,h.p.l,h.v.l,<-h.k,<-HKL.out]at hres;have HRES:=ZQ hres;have HLC:=ZQ h.c.len;clear h hd hres hm5 hq1 hq2 hq3;go_enter func85,ntmps85;go_upto_region 1 with fail;refine gen_w (p:=λv=>Code.wp _ _ _ _ v) (q:=λv=>NBx w.heap.size v x/\Below w.heap.size w v) ⟨B,HB.out⟩ ?_;clear B HB;rintro v⟨B,hb⟩;have HB:=ZQ hb;have HX:=ZQ B;have c0:=B.c0;have c1:=B.c1;have c2:=B.c2;have c37:=B.c37;obtain⟨ka,hka0⟩:∃ka,x.ka=ka:=⟨_,rfl⟩;have HKA:=ZQ hka0;rw[hka0]at c37 HKS HM5;clear hb B hka0;go_wp2_with fail;refine(H1.out v HB.out).mono ?_;rintro e w1⟨rfl,rfl⟩;cases q1 with
 |false=>
  go_wp2_with fail;go_ret;refine⟨Au (λb=>Ending.returned (Value.bool b)) ?_,HB.out⟩;rw[<-HRES.out];simp
 |true=>
  by_cases h64:64<x.pn
  ·have h64i:(x.pn:Int)>64:=(by omega);go_wp2_with fail;go_ret;refine⟨Au (λb=>Ending.returned (Value.bool b)) ?_,HB.out⟩;rw[<-HRES.out];simp[h64]
  ·have h64i:¬(x.pn:Int)>64:=(by omega);by_cases h256:256<x.vn
   ·have h256i:(x.vn:Int)>256:=(by omega);go_wp2_with fail;go_ret;refine⟨Au (λb=>Ending.returned (Value.bool b)) ?_,HB.out⟩;rw[<-HRES.out];simp[h256]
   ·have h256i:¬(x.vn:Int)>256:=(by omega);have hres:=HRES.out;rw[Ae (by simp[h64,h256])]at hres;have HRES:=ZQ hres;clear hres;by_cases k1:x.k=1
    ·by_cases hv1:1<=x.vn
     ·have hv1i:(x.vn:Int)>=1:=(by omega);go_wp2_with (first|refine Cy rfl _ rfl w.heap.size 3 rfl x.c HLC.out HX.out.child ?_);refine(H2.out _ HB.out).mono ?_;rintro e w2⟨rfl,hb2⟩;have d37:=(HX.out.go hb2).c37;have HB2:=ZQ (below_go HB.out hb2);rw[HKA.out]at d37;clear hb2;cases q2
      all_goals go_wp2_with fail
      all_goals go_ret
      all_goals refine⟨Au (λb=>Ending.returned (Value.bool b)) ?_,HB2.out⟩
      all_goals rw[<-HRES.out,Bj]
      all_goals first|(simp[k1,hv1];done)|(simp[k1,hv1];omega)
     ·have hv1i:¬(x.vn:Int)>=1:=(by omega);go_wp2_with fail;go_ret;refine⟨Au (λb=>Ending.returned (Value.bool b)) ?_,HB.out⟩;rw[<-HRES.out,Bj]
      first|(simp[k1,hv1];done)|(simp[k1,hv1];omega)
    ·by_cases k2:x.k=2
     ·go_wp2_with (first|refine Cy rfl _ rfl w.heap.size 3 rfl x.c HLC.out HX.out.child ?_);refine(H3.out _ HB.out).mono ?_;rintro e w2⟨rfl,hb2⟩;have d1:=(HX.out.go hb2).c1;have d2:=(HX.out.go hb2).c2;have d37:=(HX.out.go hb2).c37;have HB2:=ZQ (below_go HB.out hb2);rw[HKA.out]at d37;clear hb2;cases q3 with
      |false=>
       go_wp2_with fail;go_ret;refine⟨Au (λb=>Ending.returned (Value.bool b)) ?_,HB2.out⟩;rw[<-HRES.out];simp[k2]
      |true=>
       by_cases hp1:1<=x.pn
       ·have hp1i:(x.pn:Int)>=1:=(by omega);by_cases hv0:x.vn=0
        ·have hv0i:(x.vn:Int)=0:=(by omega);have hv0b:((x.vn:Int)==0)=true:=(by simp[hv0]);have HV:=ZQ hv0;clear hv0 hv0i;go_wp2_with fail;go_ret;refine⟨Au (λb=>Ending.returned (Value.bool b)) ?_,HB2.out⟩;rw[<-HRES.out,Bj]
         first|(simp[k2,hp1,HV.out];done)|(simp[k2,hp1,HV.out];omega)
        ·have hv0b:((x.vn:Int)==0)=false:=(by simp;omega);have HV:=ZQ hv0;clear hv0;go_wp2_with fail;go_ret;refine⟨Au (λb=>Ending.returned (Value.bool b)) ?_,HB2.out⟩;rw[<-HRES.out,Bj]
         first|(simp[k2,hp1,HV.out];done)|(simp[k2,hp1,HV.out];omega)
       ·have hp1i:¬(x.pn:Int)>=1:=(by omega);go_wp2_with fail;go_ret;refine⟨Au (λb=>Ending.returned (Value.bool b)) ?_,HB2.out⟩;rw[<-HRES.out,Bj]
        first|(simp[k2,hp1];done)|(simp[k2,hp1];omega)
     ·by_cases k3:x.k=3
      ·by_cases h16:x.kn=16
       ·have H16:=ZQ h16;rw[h16]at HKL c37 hm2 hm4;clear h16;by_cases hp0:x.pn=0
        ·have hp0b:(!((x.pn:Int)==0))=false:=(by simp[hp0]);have HP:=ZQ hp0;clear hp0;go_wp2_with (first|refine Cy rfl _ rfl w.heap.size 3 rfl x.c HLC.out HX.out.child ?_);refine(H2.out _ HB.out).mono ?_;rintro e w2⟨rfl,hb2⟩;have HX2:=ZQ (HX.out.go hb2);have HB2:=ZQ (below_go HB.out hb2);clear hb2;cases q2 with
         |false=>
          go_wp2_with fail;go_ret;refine⟨Au (λb=>Ending.returned (Value.bool b)) ?_,HB2.out⟩;rw[<-HRES.out];simp[k3]
         |true=>
          go_wp2_with fail
          go_loopw [5,6] (λs5 s6 u=>∃j:Nat,j<=16/\s6= .int .i64 j/\s5= .int .i64 ((ways (n.ks.take j):Nat):Int)/\(∀r∈n.ks.take j,refersP KD r false=true)/\NBx w.heap.size u x/\Below w.heap.size w u) (λ_ s6 _=>16-(intOf s6).toNat)
          case atStart=>exact⟨0,by omega,rfl,rfl,λr hr=>by simp at hr,HX2.out,HB2.out⟩
          case round=>
           obtain⟨j,hj,rfl,rfl,hall,hxv,hbv⟩:=hrel;have HALL:=ZQ hall;have HBV:=ZQ hbv;have HXV:=ZQ hxv;have r2:=hxv.c2;have r37:=hxv.c37;rw[HKA.out,H16.out]at r37;clear hall hbv hxv;by_cases hlt:j<16
           ·have hji:(j:Int)<16:=(by omega);obtain⟨r,hr⟩:∃r,n.ks[j]?=some r:=⟨_,Ac (by have:=HKL.out;omega)⟩;obtain⟨g,off,y,hka,_,hrg,hy⟩:=HKS.out j r hr;have HRG:=ZQ (EV hrg (λhl=>HBV.out.block g hl));have HRG0:=ZQ hrg;have HYL:=ZQ hy.len;obtain⟨q,hq⟩:∃q,refersP KD r false=q:=⟨_,rfl⟩
            have HRR:=ZQ (show∀u,Below w.heap.size w u->Calls prog 121 #[.agg y.cells.toArray, .bool false] u λe w'=>e= .returned (.bool q)/\Below u.heap.size u w' from λu hu=>by
             rw[<-hq];exact Mm K y r false u (hy.go (Keep.below hu)) (HD.out r (A6 hr)))
            have HQ:=ZQ hq;have HR:=ZQ hr;have hwl:ways (n.ks.take j)<=j:=(by have:=GX (n.ks.take j);rw[Am]at this;omega);have HW:=ZQ (show ways (n.ks.take (j+1))=ways (n.ks.take j)+(if y.k≠0 then 1 else 0)from by rw[DV hr,I8,hy.1]);clear hrg hy hq hr;subst hka;go_wp2_with (first|refine Cy rfl _ rfl g (off+j*34) rfl y HYL.out HRG.out ?_);refine(HRR.out _ HBV.out).mono ?_;rintro e w3⟨rfl,hb3⟩;have HX3:=ZQ (HXV.out.go hb3);have s37:=HX3.out.c37;rw[HKA.out,H16.out]at s37;have HB3:=ZQ (below_go HBV.out hb3);have sk:w3.cell? ⟨g,off+j*34,none⟩=some (.int .i64 y.k):=EV HRG0.out (λhl=>HB3.out.block g hl) 0 _ rfl;clear hb3;cases q with
            |false=>
             go_wp2_with fail;go_ret;refine⟨Au (λb=>Ending.returned (Value.bool b)) ?_,HB3.out⟩;rw[<-HRES.out];have hno:refers16 KD n.ks=false:=by
              unfold refers16;rw[List.all_eq_false];exact⟨r,A6 HR.out,by rw[HQ.out];simp⟩
             rw[hno];simp[k3]
            |true=>
             have HALL2:=ZQ (show∀r∈n.ks.take (j+1),refersP KD r false=true from λr' hr'=>by
              rw[DV HR.out]at hr';rcases Bc.1 hr' with h|h
              ·exact HALL.out r' h
              ·simp only[AP,Cj,Et]at h;rw[h];exact HQ.out)
             by_cases hk0:y.k=0
             ·have hw2:=HW.out;rw[Ae (by simp[hk0])]at hw2;have HW2:=ZQ hw2;clear hw2;go_wp2_with fail
              go_roundw
              case rel=>exact⟨j+1,by omega,by simp,by rw[HW2.out];simp,HALL2.out,HX3.out,HB3.out⟩
              case measure=>simp[intOf];omega
             ·have hw2:=HW.out;rw[Ai hk0]at hw2;have HW2:=ZQ hw2;clear hw2;go_wp2_with fail
              go_roundw
              case rel=>exact⟨j+1,by omega,by simp,by rw[HW2.out];first|(simp;done)|(simp;omega),HALL2.out,HX3.out,HB3.out⟩
              case measure=>simp[intOf];omega
           ·have hji:¬(j:Int)<16:=(by omega);have e16:n.ks.take j=n.ks:=A8 (by have:=HKL.out;omega);rw[e16]at HALL⊢;have HYES:=ZQ (show refers16 KD n.ks=true from List.all_eq_true.2 HALL.out);have hres:=HRES.out;rw[HYES.out,HP.out,H16.out,Ae (by rw[k3];decide),Ae (by rw[k3];decide),Ae (by simp[k3]),EQ]at hres;have HRES:=ZQ hres;have hwl:ways n.ks<=16:=(by have:=GX n.ks;have:=HKL.out;omega);generalize ways n.ks=ww at*;clear e16 hres;by_cases h2:2<=ww
            ·have h2i:(ww:Int)>=2:=(by omega);go_wp2_with fail;go_ret;refine⟨Au (λb=>Ending.returned (Value.bool b)) ?_,HBV.out⟩;rw[<-HRES.out];simp[h2]
            ·have h2i:¬(ww:Int)>=2:=(by omega);by_cases h1:ww=1
             ·have h1b:((ww:Int)==1)=true:=(by simp[h1]);have H1w:=ZQ h1;clear h1;go_wp2_with fail;go_ret;refine⟨Au (λb=>Ending.returned (Value.bool b)) ?_,HBV.out⟩;rw[<-HRES.out,Bj]
              first|(simp[H1w.out];done)|(simp[H1w.out];omega)
             ·have h1b:((ww:Int)==1)=false:=(by simp;omega);have H1w:=ZQ h1;clear h1;go_wp2_with fail;go_ret;refine⟨Au (λb=>Ending.returned (Value.bool b)) ?_,HBV.out⟩;rw[<-HRES.out,Bj]
              first|(simp[H1w.out,h2];done)|(simp[H1w.out,h2];omega)
        ·have hp0b:(!((x.pn:Int)==0))=true:=(by simp;omega);have HP:=ZQ hp0;clear hp0;go_wp2_with fail;go_ret;refine⟨Au (λb=>Ending.returned (Value.bool b)) ?_,HB.out⟩;rw[<-HRES.out];simp[k3,HP.out]
       ·have h16i:¬(x.kn:Int)=16:=(by omega);have H16:=ZQ h16;clear h16;go_wp2_with fail;go_ret;refine⟨Au (λb=>Ending.returned (Value.bool b)) ?_,HB.out⟩;rw[<-HRES.out];simp[k3,H16.out]
      ·have k3b:(!(x.k==3))=true:=(by simp[k3]);go_wp2_with fail;go_ret;refine⟨Au (λb=>Ending.returned (Value.bool b)) ?_,HB.out⟩;rw[<-HRES.out];simp[k1,k2,k3]
end Go.Proofs.YtefhepcplempkaaGreat
