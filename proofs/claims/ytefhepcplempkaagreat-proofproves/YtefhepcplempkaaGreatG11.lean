/- A range over a function that hands two values. -/
import Derived.Test.YtefhepcplempkaaGreatAK
import Derived.Test.YtefhepcplempkaaGreatG00
import Derived.Test.YtefhepcplempkaaGreatG10
import Derived.Test.YtefhepcplempkaaGreatG01
import Derived.Maps.AppendAt
import Derived.Laws.AppendOwnNone
set_option linter.unusedVariables false
set_option maxRecDepth 100000
set_option maxHeartbeats 1000000
open Go.Proofs.Tryz Go.RowKit
namespace Go.Proofs.YtefhepcplempkaaGreat
open Go.ChangeMaps (setBlock)
section
variable {r : Option Nat} {m : Nat} {P : Program} {ds : List Deferred} {n : Nat} {Q : Exit → Act → World → Prop} {env : Env} {w w' : World} {ops : Array Oper} {l : List Oper} {o : Oper}
end
end Go.Proofs.YtefhepcplempkaaGreat
namespace Go.Proofs.YtefhepcplempkaaGreat
open Tr
variable {K K' U : Nat → Prop} {w : World} {g B0 gB : Nat} {Z : PList} {J : PList → World → Prop} {Jx : World → Prop}
theorem TA.old:∀{t:Tr}{v:Value},TA K w t v->TA (λb=>b<w.heap.size) w t v:=by
 have hs:∀{a:Option Addr}{n c:Nat}{bs:List Int},Sk K w a n c bs->Sk (λb=>b<w.heap.size) w a n c bs:=λh=>⟨h.ag,λx hx hn=>h.old hx hn⟩;intro t
 induction t with
 |no=>intro v h;exact h
 |leaf p x=>rintro v⟨a,n,c,a',n',c',h1,h2,h3,h4⟩;exact⟨a,n,c,a',n',c',h1,hs h2,hs h3,h4⟩
 |ext p t ih=>rintro v⟨a,n,c,u,h1,h2,h3⟩;exact⟨a,n,c,u,h1,hs h2,ih h3⟩
 |br k x ih=>rintro v⟨vs,a,n,c,h1,h2,h3,h4⟩;exact⟨vs,a,n,c,h1,λi hi=>ih i (h2 i hi),hs h3,h4⟩
theorem TA.mono(hK:∀b,K b->K' b):∀{t:Tr}{v:Value},TA K w t v->TA K' w t v:=by
 intro t
 induction t with
 |no=>intro v h;exact h
 |leaf p x=>rintro v⟨a,n,c,a',n',c',h1,h2,h3,h4⟩;exact⟨a,n,c,a',n',c',h1,h2.mono hK,h3.mono hK,h4⟩
 |ext p t ih=>rintro v⟨a,n,c,u,h1,h2,h3⟩;exact⟨a,n,c,u,h1,h2.mono hK,ih h3⟩
 |br k x ih=>rintro v⟨vs,a,n,c,h1,h2,h3,h4⟩;exact⟨vs,a,n,c,h1,λi hi=>ih i (h2 i hi),h3.mono hK,h4⟩
theorem Sk.tou{w':World}{a:Option Addr}{n c:Nat}{bs:List Int}(h:Sk K w a n c bs)(t:Touch g w w')(hg:¬K g):Sk K w' a n c bs:=by
 refine⟨⟨?_,h.ag.nil,h.ag.l,h.ag.b⟩,h.k⟩;rcases h.ag.i with h1|⟨gb,off,h1,h2,h3,h4,h5,h7⟩
 ·exact .inl h1
 ·refine .inr ⟨gb,off,h1,h2,h3,h4,h5,λj hj=>?_⟩;rw[<-h7 j hj];have hk:=h.k _ h1 h3;exact Ay (t.block gb (Af (h7 j hj)) (λe=>hg (e▸hk)))
theorem Tri.mono{t:Tr}(h:Tri K w g t)(hK:∀b,K b->K' b):Tri K' w g t:=by
 obtain⟨⟨v,h1,h2⟩,h3⟩:=h;exact⟨⟨v,h1,h2.mono hK⟩,h3⟩
theorem Tri.old{t:Tr}(h:Tri K w g t):Tri (λb=>b<w.heap.size) w g t:=by
 obtain⟨⟨v,h1,h2⟩,h3⟩:=h;exact⟨⟨v,h1,h2.old⟩,h3⟩
theorem Qv{a b:World}(h:Below a.heap.size a b):a.grownBy b none:=⟨h.os,h.tape,h.output,h.size,λk hk _=>h.block k hk⟩
theorem Xv:
 Calls prog 53 #[.pointer (some ⟨g,0,none⟩)] w λe w'=>∃u,e= .returned u/\(λu w'=>(∃gB,u= .func (.func 76) #[] #[.pointer (some ⟨gB,0,none⟩)]/\Rw gB w' #[.pointer (some ⟨g,0,none⟩)] 25/\w.heap.size<=gB)/\Bl w w') u w':=by
 have hB:=Bl.refl w;refine EO func53 4<|Hn 2 (#[.pointer (some ⟨g,0,none⟩)]) 25 ?_;intro w1 g2 hn3 hr4;replace hB:=hB.go hn3.below;exact Hr 10 (.func (.func 76) #[] #[.pointer (some ⟨g2,0,none⟩)]) ⟨_,rfl,⟨g2,rfl,hr4,by rw[hn3.hg];exact Aa _⟩,hB⟩
theorem Xw{l:Nat}(V:Vis l B0 Z U J Jx)(hgB:Rw gB w #[.pointer (some ⟨g,0,none⟩)] 25)(hr:Rw g w #[.nilIface] 76)(hJ:J [] w)(hB0:B0<=w.heap.size):
 Calls prog 76 #[.func (.yield l) #[] #[], .pointer (some ⟨gB,0,none⟩)] w λe w'=>∃u,e= .returned u/\(λu w'=>J [] w'∨Jx w') u w':=by
 have hB:=Bl.refl w;refine EO func76 14<|Hn 2 (#[.func (.yield l) #[] #[]]) 71 ?_;intro w1 g2 hn3 hr4;replace hJ:=V.go hJ hn3.below;have hgY:=hn3.hg;replace hgB:=hgB.go hn3.below;refine Hl 5 hgB 0 25 (.pointer (some ⟨g,0,none⟩)) ?_;replace hr:=hr.go hn3.below;refine Hl 2 hr 0 74 (.nilIface) ?_;exact Hr 6 (.tuple #[]) ⟨_,rfl, .inl hJ⟩
theorem Vw{l:Nat}(V:Vis l B0 Z U J Jx){T0:TypeId}{v0:Value}(hgB:Rw gB w #[.pointer (some ⟨g,0,none⟩)] 25)(hr:Rw g w #[.iface T0 v0] 76)(hJ:J [] w)(hB0:B0<=w.heap.size){t:Tr}(ht:TA K w t (.iface T0 v0))(hO:Tr.Ok 64 t)(hKU:∀b,K b->¬U b)(hN:([]++entsF [] t)<+:Z):
 Calls prog 76 #[.func (.yield l) #[] #[], .pointer (some ⟨gB,0,none⟩)] w λe w'=>∃u,e= .returned u/\(λu w'=>J (entsF [] t) w'∨Jx w') u w':=by
 have hB:=Bl.refl w;refine CV func76 rfl 14 rfl ?_;show CW _ _ _ _ _ _ _ [(0, .func (.yield l) #[] #[]),(1, .pointer (some ⟨gB,0,none⟩))] _;refine A5<|Ao<|E5 2 (#[.func (.yield l) #[] #[]]) 71 (λ_=>by kernel_rfl) (λ_=>by kernel_rfl) ?_;intro w1 g2 hn3;replace hB:=hB.go hn3.below;replace hgB:=hgB.go hn3.below;replace hr:=hr.go hn3.below;replace hJ:=V.go hJ hn3.below;replace ht:=ht.go hn3.below;have hr4:Rw g2 w1 (#[.func (.yield l) #[] #[]]) 71:=hn3.row;refine AK ?_;have hgY:=hn3.hg;refine Av<|A5<|A5<|Ao<|rv 3 (.pointer (some ⟨g,0,none⟩)) (λ_=>AA 25 _ ⟨gB,0,none⟩ _ _ rfl (by kernel_rfl) (by rw[Ad _ _ _ _ _ _ hgB];rfl) underlying25 rfl)<|rp 4 (.pointer (some ⟨g,0,none⟩))<|rp 5 (.pointer (some ⟨g,0,none⟩))<|rv 6 (.iface T0 v0) (λ_=>AA 74 _ ⟨g,0,none⟩ _ _ rfl (by kernel_rfl) (by rw[Ad _ _ _ _ _ _ hr];rfl) underlying74 rfl)<|rp 7 (.bool false)<|AK<|Av<|Cb (λ_=>by kernel_rfl) ?_;refine CN<|Av<|Ao<|rv 8 (.pointer (some ⟨g,0,none⟩)) (λ_=>AA 25 _ ⟨gB,0,none⟩ _ _ rfl (by kernel_rfl) (by rw[Ad _ _ _ _ _ _ hgB];rfl) underlying25 rfl)<|rp 9 (.pointer (some ⟨g,0,none⟩))<|rp 10 (.pointer (some ⟨g,0,none⟩))<|rv 11 (.iface T0 v0) (λ_=>AA 74 _ ⟨g,0,none⟩ _ _ rfl (by kernel_rfl) (by rw[Ad _ _ _ _ _ _ hr];rfl) underlying74 rfl)<|rp 12 (.func (.func 77) #[] #[.pointer (some ⟨g2,0,none⟩)]) ?_;obtain⟨T7,x8,f9,he10,hi5,hc6⟩:=(YS V t hO (by omega) ht hKU (Sk.nil (λ_=>False) _) (λb hb=>hb.elim) hr4 (λhu=>by have:=V.lo _ hu;omega) hJ hN (Ar hB0 hB.size));refine BH 13 f9 (#[x8]++#[.slice none 0 0, .func (.func 77) #[] #[.pointer (some ⟨g2,0,none⟩)]]) (λ_=>by kernel_rfl) (λ_=>hi5 _ _ _ _ _ _ _ rfl (by kernel_rfl) (by kernel_rfl)) (R:=RB U J Jx (w1) ([]++entsF [] t)) ?_ ?_
 ·exact hc6
 rintro _ u8⟨b8,rfl,hR8,hX8⟩;refine AK ?_;cases b8 with
 |true=>exact Kq (.tuple #[]) (λ_=>by kernel_rfl) ⟨_,rfl, .inl (hR8 rfl).1⟩
 |false=>exact Kq (.tuple #[]) (λ_=>by kernel_rfl) ⟨_,rfl, .inr (hX8 rfl)⟩
theorem Vy{l:Nat}(V:Vis l B0 Z U J Jx)(hgB:Rw gB w #[.pointer (some ⟨g,0,none⟩)] 25)(hJ:J [] w)(hB0:B0<=w.heap.size){t:Tr}{v:Value}(hr:Rw g w #[v] 76)(ht:TA K w t v)(hok:t=no∨Tr.Ok 64 t)(hKU:∀b,K b->¬U b)(hN:entsF [] t<+:Z):
 Calls prog 76 #[.func (.yield l) #[] #[], .pointer (some ⟨gB,0,none⟩)] w λe w'=>∃u,e= .returned u/\(J (entsF [] t) w'∨Jx w'):=by
 rcases hok with rfl|hO
 ·rw[show v= .nilIface from ht]at hr;exact Xw V hgB hr hJ hB0
 ·obtain⟨T0,v0,rfl⟩:=ht.iface hO.ne;exact Vw V hgB hr hJ hB0 ht hO hKU hN
def KpR(U:Nat->Prop)(A B:World):Prop:=KpU U A.heap.size A B
def Cnt(w:World)(gN:Nat)(xs:List (Value×Value))(W:World):Prop:=Rw gN W #[.int .i64 ((xs.length:Nat):Int)] 3/\Bl w W
end Go.Proofs.YtefhepcplempkaaGreat
namespace Go.Proofs.YtefhepcplempkaaGreat
namespace Tr
end Tr
namespace Tr
end Tr
end Go.Proofs.YtefhepcplempkaaGreat
namespace Go.Proofs.YtefhepcplempkaaGreat
open Ni (lessP Jg)
theorem FI:∀a:List Int,lessP a a=false
 |[]=>rfl
 |x::r=>by simp[lessP,FI r]
theorem GV:∀a b c:List Int,lessP a b=true->lessP b c=true->lessP a c=true
 |[],[],_,h,_=>by simp[lessP]at h
 |[],_::_,[],_,h=>by simp[lessP]at h
 |[],_::_,_::_,_,_=>rfl
 |_::_,[],_,h,_=>by simp[lessP]at h
 |_::_,_::_,[],_,h=>by simp[lessP]at h
 |x::a,y::b,z::c,h,k=>by
  simp only[lessP]at h k⊢;by_cases h1:x=y
  ·subst h1;rw[Ai rfl]at h;by_cases h2:x=z
   ·subst h2;rw[Ai rfl]at k⊢;exact GV a b c h k
   ·rw[Ae h2]at k⊢;exact k
  ·rw[Ae h1]at h;by_cases h2:y=z
   ·subst h2;rw[Ae h1];exact h
   ·rw[Ae h2]at k;have h3:=DQ h;have h4:=DQ k;rw[Ae (by omega)];exact AT (by omega)
theorem Pa(a b:List Int)(h:a≠b)(k:lessP a b=false):lessP b a=true:=by
 have:=Jg a b;simpa[h,k]using this
def cmpP(a b:List Int):Int:=if a=b then 0 else if lessP a b then-1 else 1
def SrtB(M:List (List Int)):Prop:=M.Pairwise λa b=>lessP a b=true
def ddg(p:List Int):List (List Int)->List (List Int)
 |[]=>[]
 |y::r=>if y=p then ddg p r else y::ddg y r
def dd:List (List Int)->List (List Int)
 |[]=>[]
 |x::r=>x::ddg x r
end Go.Proofs.YtefhepcplempkaaGreat
namespace Go.Proofs.YtefhepcplempkaaGreat
open Tr
open Ni (lessP)
def entsR:Tr->PList
 |no=>[]
 |leaf q x=>[(q,x)]
 |ext q c=>(entsR c).map λe=>(q++e.1,e.2)
 |br k x=>(if x=[]then[]else[([],x)])++(List.range 16).flatMap λi=>(entsR (k i)).map λe=>((i:Int)::e.1,e.2)
theorem Gi{α β:Type}(f g:α->List β):∀l:List α,(∀i∈l,f i=g i)->l.flatMap f=l.flatMap g
 |[],_=>rfl
 |a::l,h=>by rw[Cm,Cm,h a (by simp),Gi f g l (λi hi=>h i (AN _ hi))]
theorem Pc:∀(t:Tr)(q:List Int),entsF q t=(entsR t).map λe=>((Ni.keyP (q++e.1)).1,e.2):=by
 intro t
 induction t with
 |no=>intro q;rfl
 |leaf p x=>intro q;rfl
 |ext p c ih=>intro q;simp[entsF,entsR,ih,List.append_assoc]
 |br k x ih=>
  intro q;simp only[entsF,entsR,List.map_append,List.map_flatMap];congr 1
  ·by_cases h:x=[]<;>simp[h]
  ·refine Gi _ _ _ (λi _=>?_);rw[ih i];by_cases h:(k i).isNo=true
   ·rw[if_pos h];cases hk:k i<;>simp_all [isNo,entsR]
   ·rw[if_neg h];simp[List.map_map,Function.comp,List.append_assoc]
theorem Vz(q a b:List Int):lessP (q++a) (q++b)=lessP a b:=by
 induction q with
 |nil=>rfl
 |cons x q ih=>simp[lessP,ih]
def SrtP(l:PList):Prop:=l.Pairwise λe f=>lessP e.1 f.1=true
theorem IX{α:Type}{R:α->α->Prop}(f:Nat->List α):∀n:Nat,(∀i,i<n->(f i).Pairwise R)->(∀i j,i<j->j<n->∀a∈f i,∀b∈f j,R a b)->((List.range n).flatMap f).Pairwise R
 |0,_,_=>by simp
 |n+1,h1,h2=>by
  rw[CR,Ca,List.pairwise_append];refine⟨IX f n (λi hi=>h1 i (by omega)) (λi j hij hj=>h2 i j hij (by omega)),by simpa using h1 n (by omega),?_⟩;intro a ha b hb;obtain⟨i,hi,hai⟩:=BG.1 ha;have hb':b∈f n:=by simpa using hb
  exact h2 i n (EB.1 hi) (by omega) a hai b hb'
theorem V0:∀t:Tr,SrtP (entsR t):=by
 intro t
 induction t with
 |no=>simp[entsR,SrtP]
 |leaf p x=>simp[entsR,SrtP]
 |ext p c ih=>
  simp only[entsR,SrtP,List.pairwise_map]at ih⊢;exact ih.imp (λh=>by rw[Vz];exact h)
 |br k x ih=>
  simp only[entsR,SrtP];rw[List.pairwise_append];refine⟨?_,?_,?_⟩
  ·by_cases h:x=[]<;>simp[h]
  ·refine IX _ 16 (λi hi=>?_) (λi j hij hj a ha b hb=>?_)
   ·rw[List.pairwise_map];exact(ih i).imp (λh=>by simp[lessP,h])
   ·obtain⟨e,_,rfl⟩:=BD.1 ha;obtain⟨f,_,rfl⟩:=BD.1 hb;simp only[lessP];rw[Ae (by omega)];exact AT (by omega)
  ·intro a ha b hb;obtain⟨i,_,hbi⟩:=BG.1 hb;obtain⟨f,_,rfl⟩:=BD.1 hbi;by_cases h:x=[]
   ·simp[h]at ha
   ·simp[h]at ha;rw[ha];rfl
theorem JB:∀(t:Tr){B:Nat},Tr.Ok B t->∀p x,(p,x)∈entsR t↔(Nb p/\Tr.get t p=x/\x≠[]):=by
 intro t
 induction t with
 |no=>intro B hO;exact hO.elim
 |leaf q v=>
  intro B hO p x;simp only[entsR,DK,CM,Tr.get];constructor
  ·rintro⟨rfl,rfl⟩;exact⟨hO.1,Ai rfl,hO.2.2⟩
  ·rintro⟨h1,h2,h3⟩;by_cases e:p=q
   ·rw[Ai e]at h2;exact⟨e,h2.symm⟩
   ·rw[Ae e]at h2;exact absurd h2.symm h3
 |ext q c ih=>
  intro B hO p x;obtain⟨o1,o2,o3,o4,o5⟩:=hO;simp only[entsR,BD,CM,Tr.get];constructor
  ·rintro⟨⟨p',x'⟩,hm,rfl,rfl⟩;obtain⟨h1,h2,h3⟩:=(ih o5 p' x').1 hm;exact⟨o1.app h1,by simp[h2],h3⟩
  ·rintro⟨h1,h2,h3⟩;by_cases e:p.take q.length=q
   ·rw[Ai e]at h2;refine⟨(p.drop q.length,x),(ih o5 _ _).2 ⟨h1.drop _,h2,h3⟩,?_,rfl⟩;have:=Be q.length p;rw[e]at this;exact this
   ·rw[Ae e]at h2;exact absurd h2.symm h3
 |br k v ih=>
  intro B hO p x;simp only[entsR,Bc,BG,EB,BD,CM];constructor
  ·rintro(h|⟨i,hi,⟨p',x'⟩,hm,rfl,rfl⟩)
   ·by_cases e:v=[]
    ·simp[e]at h
    ·simp[e]at h;obtain⟨rfl,rfl⟩:=h;exact⟨λi hi=>by simp at hi,rfl,e⟩
   ·rcases hO.1 i with h|⟨h16,hB1,hk⟩
    ·rw[h]at hm;simp[entsR]at hm
    ·obtain⟨h1,h2,h3⟩:=(ih i hk p' x').1 hm;refine⟨λj hj=>?_,by simpa[Tr.get]using h2,h3⟩;rcases AP.1 hj with e|hj
     ·omega
     ·exact h1 j hj
  ·rintro⟨h1,h2,h3⟩;cases p with
   |nil=>
    left;have h2:v=x:=h2;rw[Ae (by rw[h2];exact h3)];simp[h2]
   |cons i r=>
    right;have hi:=h1.head;obtain⟨j,rfl⟩:=Int.eq_ofNat_of_zero_le hi.1;have h2:Tr.get (k j) r=x:=h2;rcases hO.1 j with h|⟨h16,hB1,hk⟩
    ·rw[h]at h2;exact absurd h2.symm h3
    ·exact⟨j,h16,(r,x),(ih j hk r x).2 ⟨h1.tail,h2,h3⟩,rfl,rfl⟩
theorem MV:∀A B:PList,SrtP A->SrtP B->(∀x,x∈A↔x∈B)->A=B
 |[],[],_,_,_=>rfl
 |[],b::B,_,_,h=>by have:=(h b).2 (by simp);simp at this
 |a::A,[],_,_,h=>by have:=(h a).1 (by simp);simp at this
 |a::A,b::B,hA,hB,h=>by
  obtain⟨ha,hA'⟩:=CS.1 hA;obtain⟨hb,hB'⟩:=CS.1 hB;have e:a=b:=by
   rcases AP.1 ((h a).1 (by simp))with q|q
   ·exact q
   ·rcases AP.1 ((h b).2 (by simp))with p|p
    ·exact p.symm
    ·have:=GV _ _ _ (ha _ p) (hb _ q);rw[FI]at this;cases this
  subst e;congr 1;refine MV A B hA' hB' λx=>⟨λhx=>?_,λhx=>?_⟩
  ·rcases AP.1 ((h x).1 (AN _ hx))with q|q
   ·subst q;have:=ha _ hx;rw[FI]at this;cases this
   ·exact q
  ·rcases AP.1 ((h x).2 (AN _ hx))with q|q
   ·subst q;have:=hb _ hx;rw[FI]at this;cases this
   ·exact q
def Byk(k:List Int):Prop:=∀y∈k,0<=y/\y<256
def atN(k:List Int):PList->Nat
 |[]=>0
 |e::r=>if lessP e.1 k then atN k r+1 else 0
theorem Qw(k:List Int):∀l:PList,atN k l<=l.length
 |[]=>Aa _
 |e::r=>by have:=Qw k r;simp only[atN];split<;>simp<;>omega
def isAt(k:List Int)(l:PList):Bool:=match l[atN k l]? with
 |some e=>decide (e.1=k)
 |none=>false
def putR(k x:List Int):PList->PList
 |[]=>[(k,x)]
 |e::r=>if lessP e.1 k then e::putR k x r else if e.1=k then(k,x)::r else(k,x)::e::r
def delR(k:List Int):PList->PList
 |[]=>[]
 |e::r=>if lessP e.1 k then e::delR k r else if e.1=k then r else e::r
theorem MW(k:List Int)(e:List Int×List Int)(r:PList):isAt k (e::r)=if lessP e.1 k then isAt k r else decide (e.1=k):=by
 unfold isAt;simp only[atN];by_cases h:lessP e.1 k=true
 ·simp[h]
 ·simp[h]
theorem LS(k x:List Int):∀l:PList,putR k x l=l.take (atN k l)++[(k,x)]++l.drop (if isAt k l then atN k l+1 else atN k l)
 |[]=>by simp[putR,atN,isAt]
 |e::r=>by
  have ih:=LS k x r;rw[MW];simp only[putR,atN];by_cases h:lessP e.1 k=true
  ·simp only[h,if_true];rw[ih];cases isAt k r<;>simp
  ·simp only[h,Cd,Er];by_cases e1:e.1=k
   ·simp[e1]
   ·simp[e1]
theorem V1(k:List Int):∀l:PList,SrtP l->(isAt k l=true↔∃x,(k,x)∈l)
 |[],_=>by simp[isAt]
 |e::r,h=>by
  obtain⟨h1,h2⟩:=CS.1 h;rw[MW];by_cases hl:lessP e.1 k=true
  ·rw[Ai hl,V1 k r h2];constructor
   ·rintro⟨x,hx⟩;exact⟨x,AN _ hx⟩
   ·rintro⟨x,hx⟩;rcases AP.1 hx with q|q
    ·rw[<-q]at hl;simp[FI]at hl
    ·exact⟨x,q⟩
  ·rw[Ae hl];constructor
   ·intro hd;have:=DQ hd;exact⟨e.2,by rw[<-this];simp⟩
   ·rintro⟨x,hx⟩;rcases AP.1 hx with q|q
    ·exact AT (by rw[<-q])
    ·exact absurd (h1 _ q) hl
theorem JC(k x:List Int):∀l:PList,SrtP l->∀k' x',(k',x')∈putR k x l↔(k'=k/\x'=x)∨(k'≠k/\(k',x')∈l)
 |[],_,k',x'=>by simp[putR]
 |e::r,h,k',x'=>by
  obtain⟨h1,h2⟩:=CS.1 h;have ih:=JC k x r h2 k' x';simp only[putR];by_cases hl:lessP e.1 k=true
  ·rw[Ai hl,AP,ih,AP];have hne:e.1≠k:=λe1=>by rw[e1,FI]at hl;cases hl
   constructor
   ·rintro(q|q|q)
    ·exact .inr ⟨by rw[<-q]at hne;exact hne, .inl q⟩
    ·exact .inl q
    ·exact .inr ⟨q.1, .inr q.2⟩
   ·rintro(q|⟨q1,q2|q2⟩)
    ·exact .inr (.inl q)
    ·exact .inl q2
    ·exact .inr (.inr ⟨q1,q2⟩)
  ·rw[Ae hl];by_cases e1:e.1=k
   ·rw[Ai e1,AP,AP,CM];constructor
    ·rintro(q|q)
     ·exact .inl q
     ·refine .inr ⟨λe2=>?_, .inr q⟩;have:=h1 _ q;rw[e1,e2,FI]at this;cases this
    ·rintro(q|⟨q1,q2|q2⟩)
     ·exact .inl q
     ·exact absurd (by rw[<-e1,<-q2]) q1
     ·exact .inr q2
   ·rw[Ae e1,AP,AP,CM];constructor
    ·rintro(q|q)
     ·exact .inl q
     ·refine .inr ⟨λe2=>?_,q⟩;have hke:=Pa e.1 k e1 (by simpa using hl);rcases q with q|q
      ·exact e1 (by rw[<-q];exact e2)
      ·have:=GV _ _ _ hke (h1 _ q);rw[e2,FI]at this;cases this
    ·rintro(q|⟨q1,q2⟩)
     ·exact .inl q
     ·exact .inr q2
theorem Pd(k x:List Int):∀l:PList,SrtP l->SrtP (putR k x l)
 |[],_=>by simp[putR,SrtP]
 |e::r,h=>by
  obtain⟨h1,h2⟩:=CS.1 h;simp only[putR];by_cases hl:lessP e.1 k=true
  ·rw[Ai hl];refine CS.2 ⟨λf hf=>?_,Pd k x r h2⟩;obtain⟨f1,f2⟩:=f;rcases(JC k x r h2 f1 f2).1 hf with q|q
   ·rw[q.1];exact hl
   ·exact h1 _ q.2
  ·rw[Ae hl];by_cases e1:e.1=k
   ·rw[Ai e1];exact CS.2 ⟨λf hf=>by have:=h1 f hf;rw[e1]at this;exact this,h2⟩
   ·rw[Ae e1];have hke:=Pa e.1 k e1 (by simpa using hl);refine CS.2 ⟨λf hf=>?_,h⟩;rcases AP.1 hf with q|q
    ·rw[q];exact hke
    ·exact GV _ _ _ hke (h1 f q)
theorem Pe(k x:List Int):∀l:PList,(putR k x l).length<=l.length+1
 |[]=>by simp[putR]
 |e::r=>by
  have:=Pe k x r;simp only[putR];split
  ·simp;omega
  ·split<;>simp
end Go.Proofs.YtefhepcplempkaaGreat
namespace Go.Proofs.YtefhepcplempkaaGreat
open Tr
structure Opx where
 z:Int
 ka:Option Addr
 kn:Nat
 kc:Nat
 va:Option Addr
 vn:Nat
 vc:Nat
 k:List Int
 x:List Int
def Opx.cells(y:Opx):Array Value:=#[.int .i64 y.z, .slice y.ka y.kn y.kc, .slice y.va y.vn y.vc]
def An:Nat->Prop:=λ_=>True
structure OAt(w:World)(a:Option Addr)(n:Nat)(xs:List Opx):Prop where
 len:xs.length=n
 row:∀j y,xs[j]?=some y->∃g off,a=some ⟨g,off,none⟩/\w.rangeAt g (off+j*3) y.cells.toList
 k:∀y∈xs,Ag w y.ka y.kn y.kc y.k
 x:∀y∈xs,Ag w y.va y.vn y.vc y.x
end Go.Proofs.YtefhepcplempkaaGreat
namespace Go.Proofs.YtefhepcplempkaaGreat
open Tr
open Ni (lessP)
variable {k x : List Int}
structure Rel(t:Tr)(l:PList):Prop where
 s:SrtP l
 m:∀k x,(k,x)∈l↔(Byk k/\k.length<=32/\x≠[]/\Tr.get t (Ni.nib k)=x)
 e:∀p,Nb p->Tr.get t p≠[]->∃k,Byk k/\k.length<=32/\p=Ni.nib k
 v:∀k x,(k,x)∈l->x.length<=256
 ok:t=no∨Tr.Ok 64 t
def putL(l:PList)(k x:List Int):PList:=if k.length<=32/\0<x.length/\x.length<=256 then putR k x l else l
def delL(l:PList)(k:List Int):PList:=if k.length<=32 then delR k l else l
theorem Rel.nil:Rel no []:=⟨by simp[SrtP],λk x=>⟨λh=>by simp at h,λh=>absurd h.2.2.2.symm h.2.2.1⟩,λp _ h=>absurd rfl h,(λk x h=>by simp at h), .inl rfl⟩
theorem JX(h:Byk k):Nb (Ni.nib k):=Qj h
theorem Xx{t:Tr}(h:t=no∨Tr.Ok 64 t)(hk:Byk k):putT t k x=no∨Tr.Ok 64 (putT t k x):=by
 unfold putT;split
 ·rename_i hc;exact .inr (N8 t 64 _ _ h (JX hk) (by rw[Ni.nib_len];omega) (λe=>by rw[e]at hc;simp at hc))
 ·exact h
theorem JD{t:Tr}(h:t=no∨Tr.Ok 64 t)(hk:Byk k){q:List Int}(hq:Nb q):Tr.get (putT t k x) q=if(k.length<=32/\0<x.length/\x.length<=256)/\q=Ni.nib k then x else Tr.get t q:=by
 unfold putT;split
 ·rename_i hc;rw[WH t 64 _ _ _ h (JX hk) hq];by_cases e:q=Ni.nib k
  ·rw[Ai e,Ai ⟨hc,e⟩]
  ·rw[Ae e,Ae (λz=>e z.2)]
 ·rename_i hc;rw[Ae (λz=>hc z.1)]
theorem Sj{a b:List Int}(h:Ni.nib a=Ni.nib b):a=b:=by rw[<-Ni.kk_nib a,h,Ni.kk_nib]
theorem Rel.put{t:Tr}{l:PList}(h:Rel t l)(hk:Byk k):Rel (putT t k x) (putL l k x):=by
 by_cases hc:k.length<=32/\0<x.length/\x.length<=256
 ·have el:putL l k x=putR k x l:=Ai hc;have hx:x≠[]:=λe=>by rw[e]at hc;simp at hc
  rw[el];refine⟨Pd k x l h.s,λk' x'=>?_,λp hp hg=>?_,λk' x' hm=>?_,Xx h.ok hk⟩
  ·rw[JC k x l h.s];constructor
   ·rintro(⟨rfl,rfl⟩|⟨q1,q2⟩)
    ·exact⟨hk,hc.1,hx,by rw[JD h.ok hk (JX hk),Ai ⟨hc,rfl⟩]⟩
    ·obtain⟨h1,h2,h3,h4⟩:=(h.m k' x').1 q2;exact⟨h1,h2,h3,by rw[JD h.ok hk (JX h1),Ae (λz=>q1 (Sj z.2))];exact h4⟩
   ·rintro⟨h1,h2,h3,h4⟩;rw[JD h.ok hk (JX h1)]at h4;by_cases e:k'=k
    ·subst e;rw[Ai ⟨hc,rfl⟩]at h4;exact .inl ⟨rfl,h4.symm⟩
    ·rw[Ae (λz=>e (Sj z.2))]at h4;exact .inr ⟨e,(h.m k' x').2 ⟨h1,h2,h3,h4⟩⟩
  ·rw[JD h.ok hk hp]at hg;by_cases e:p=Ni.nib k
   ·exact⟨k,hk,hc.1,e⟩
   ·rw[Ae (λz=>e z.2)]at hg;exact h.e p hp hg
  ·rcases(JC k x l h.s k' x').1 hm with q|q
   ·rw[q.2];exact hc.2.2
   ·exact h.v k' x' q.2
 ·have e1:putL l k x=l:=Ae hc;have e2:putT t k x=t:=Ae hc;rw[e1,e2];exact h
theorem Rel.ents{t:Tr}{l:PList}(h:Rel t l):entsF [] t=l:=by
 rcases h.ok with rfl|hO
 ·rw[show entsF [] no=[]from rfl];cases l with
  |nil=>rfl
  |cons e r=>
   obtain⟨k,x⟩:=e;obtain⟨_,_,h3,h4⟩:=(h.m k x).1 (by simp);exact absurd h4.symm h3
 ·have hkey:∀p x,(p,x)∈entsR t->∃k,Byk k/\k.length<=32/\p=Ni.nib k/\(Ni.keyP p).1=k:=by
   intro p x hm;obtain⟨h1,h2,h3⟩:=(JB t hO p x).1 hm;obtain⟨k,k1,k2,k3⟩:=h.e p h1 (by rw[h2];exact h3);exact⟨k,k1,k2,k3,by rw[k3,Ni.key_nib k1]⟩
  rw[Pc];refine MV _ _ ?_ h.s (λy=>?_)
  ·unfold SrtP;rw[List.pairwise_map];refine List.Pairwise.imp_of_mem ?_ (V0 t);rintro⟨p,x⟩⟨p',x'⟩ hm hm' hl;obtain⟨k,_,_,k3,k4⟩:=hkey p x hm;obtain⟨k',_,_,k3',k4'⟩:=hkey p' x' hm';show lessP (Ni.keyP ([]++p)).1 (Ni.keyP ([]++p')).1=true;rw[AL,AL,k4,k4',<-Ni.less_nib,<-k3,<-k3'];exact hl
  ·obtain⟨k,x⟩:=y;constructor
   ·intro hm;obtain⟨⟨p,x'⟩,hm',he⟩:=BD.1 hm;obtain⟨k',k1,k2,k3,k4⟩:=hkey p x' hm';obtain⟨h1,h2,h3⟩:=(JB t hO p x').1 hm';simp only[AL,k4,CM]at he;obtain⟨rfl,rfl⟩:=he;exact(h.m k' x').2 ⟨k1,k2,h3,by rw[<-k3];exact h2⟩
   ·intro hm;obtain⟨k1,k2,h3,h4⟩:=(h.m k x).1 hm;refine BD.2 ⟨(Ni.nib k,x),(JB t hO _ _).2 ⟨JX k1,h4,h3⟩,?_⟩;simp only[AL,Ni.key_nib k1]
theorem V3(l:PList)(k x:List Int):(putL l k x).length<=l.length+1:=by
 unfold putL;split
 ·exact Pe k x l
 ·omega
def Sup(u:Tr)(A:List Int->Prop):Prop:=∀q,Nb q->Tr.get u q≠[]->∃k,A k/\Byk k/\k.length<=32/\q=Ni.nib k
end Go.Proofs.YtefhepcplempkaaGreat
namespace Go.Proofs.YtefhepcplempkaaGreat
open Tr
variable {K K' X : Nat → Prop} {w w' : World} {p : Value × Value} {base m c g n : Nat} {a : Option Addr} {vs' vs : List (Value × Value)} {l' : PList}
def flatP(vs:List (Value×Value)):List Value:=vs.flatMap λp=>[p.1,p.2]
theorem DE:∀vs:List (Value×Value),(flatP vs).length=vs.length*2
 |[]=>rfl
 |p::r=>by have:=DE r;simp only[flatP,Cm,Ab,AU,CB]at this⊢;omega
theorem JY(a b:List (Value×Value)):flatP (a++b)=flatP a++flatP b:=by simp[flatP]
theorem IY:∀(vs:List (Value×Value))(m:Nat),flatP (vs.drop m)=(flatP vs).drop (m*2)
 |[],m=>by simp[flatP]
 |p::r,0=>by simp
 |p::r,m+1=>by
  rw[List.drop_succ_cons,IY r m,show(m+1)*2=m*2+1+1 from by omega];simp[flatP]
theorem IZ:∀(vs:List (Value×Value))(m:Nat),flatP (vs.take m)=(flatP vs).take (m*2)
 |[],m=>by simp[flatP]
 |p::r,0=>by simp[flatP]
 |p::r,m+1=>by
  have ih:=IZ r m;rw[CG,show(m+1)*2=m*2+1+1 from by omega];simp only[flatP,Cm,Cq,AL,CG]at ih⊢;rw[ih]
theorem MX:∀(vs:List (Value×Value))(j:Nat)(p:Value×Value),vs[j]?=some p->(flatP vs)[j*2]?=some p.1/\(flatP vs)[j*2+1]?=some p.2
 |[],j,p,h=>by simp at h
 |q::r,0,p,h=>by simp at h;subst h;simp[flatP]
 |q::r,j+1,p,h=>by
  have:=MX r j p (by simpa using h);rw[show(j+1)*2=j*2+1+1 from by omega];simpa[flatP]using this
theorem I6(y:Addr)(k:Nat):(y.add k).block=y.block:=by
 unfold Addr.add;split<;>rfl
def Gp2(K:Nat->Prop)(w:World)(p:Value×Value)(e:List Int×List Int):Prop:=∃a n c a' n' c',p.1= .slice a n c/\p.2= .slice a' n' c'/\Sk K w a n c e.1/\Sk K w a' n' c' e.2
theorem Gp2.mono{e:List Int×List Int}(h:Gp2 K w p e)(hK:∀b,K b->K' b):Gp2 K' w p e:=by
 obtain⟨a,n,c,a',n',c',h1,h2,h3,h4⟩:=h;exact⟨a,n,c,a',n',c',h1,h2,h3.mono hK,h4.mono hK⟩
theorem Gp2.go{e:List Int×List Int}(h:Gp2 K w p e)(hb:Below w.heap.size w w'):Gp2 K w' p e:=by
 obtain⟨a,n,c,a',n',c',h1,h2,h3,h4⟩:=h;exact⟨a,n,c,a',n',c',h1,h2,h3.go hb,h4.go hb⟩
structure PAt(K:Nat->Prop)(w:World)(a:Option Addr)(n c:Nat)(vs:List (Value×Value))(l:PList):Prop where
 vl:vs.length=n
 ll:l.length=n
 nc:n<=c
 nil:a=none->n=0/\c=0
 row:∀j u,(flatP vs)[j]?=some u->∃g off,a=some ⟨g,off,none⟩/\w.cell? ⟨g,off+j,none⟩=some u
 gd:∀(j:Nat)(p:Value×Value)(e:List Int×List Int),vs[j]?=some p->l[j]?=some e->Gp2 K w p e
 rk:∀x,a=some x->0<n->K x.block
section
variable {K : Nat → Prop} {w w' : World} {a : Option Addr} {n c : Nat} {vs : List (Value × Value)} {l : PList}
theorem PAt.go(h:PAt K w a n c vs l)(hb:Below w.heap.size w w'):PAt K w' a n c vs l:=⟨h.vl,h.ll,h.nc,h.nil,λj u hj=>by
 obtain⟨g,off,h1,h2⟩:=h.row j u hj;exact⟨g,off,h1,(hb.cell (p:=⟨g,off+j,none⟩) (Af h2)).trans h2⟩,λj p e h1 h2=>(h.gd j p e h1 h2).go hb,h.rk⟩
theorem PAt.drew(h:PAt K w a n c vs l):PAt K w.drew a n c vs l:=h.go (Ak _ _).drew
theorem PAt.empty(K:Nat->Prop)(w:World):PAt K w none 0 0 [] []:=⟨rfl,rfl,Aa _,λ_=>⟨rfl,rfl⟩,(λj u h=>by simp[flatP]at h),(λj p e h=>by simp at h),λx hx=>by cases hx⟩
theorem PAt.mono{K':Nat->Prop}(h:PAt K w a n c vs l)(hK:∀b,K b->K' b):PAt K' w a n c vs l:=⟨h.vl,h.ll,h.nc,h.nil,h.row,λj p e h1 h2=>(h.gd j p e h1 h2).mono hK,λx hx hn=>hK _ (h.rk x hx hn)⟩
theorem PAt.old(h:PAt K w a n c vs l):PAt (λb=>K b/\b<w.heap.size) w a n c vs l:=⟨h.vl,h.ll,h.nc,h.nil,h.row,λj p e h1 h2=>by
 obtain⟨a,n,c,a',n',c',q1,q2,q3,q4⟩:=h.gd j p e h1 h2;exact⟨a,n,c,a',n',c',q1,q2,⟨q3.ag,λx hx hn=>⟨q3.k x hx hn,q3.old hx hn⟩⟩,⟨q4.ag,λx hx hn=>⟨q4.k x hx hn,q4.old hx hn⟩⟩⟩,λx hx hn=>by
 refine⟨h.rk x hx hn,?_⟩;obtain⟨u,hu⟩:∃u,(flatP vs)[0]?=some u:=⟨_,Ac (by rw[DE,h.vl];omega)⟩;obtain⟨g,off,e1,e2⟩:=h.row 0 u hu;rw[hx]at e1;cases e1;exact Af e2⟩
theorem PAt.cutFrom(h:PAt K w a n c vs l)(f:Nat)(hf:f<=n):
 ∃a' n' c',(∀(v:World)(ρ:Operand->Value)(o:Oper)(x y:Operand),o.op= .slice 22 x (some y) none none->ρ x= .slice a n c->ρ y= .int .i64 (f:Int)->(execOp ρ o).run prog v= .ok (.value (.slice a' n' c')) v)/\PAt K w a' n' c' (vs.drop f) (l.drop f):=by
 have hnc:=h.nc;refine⟨if c=f then a else a.map (·.add (f*2)),n-f,c-f,?_,?_⟩
 ·intro v ρ o x y ho hx hy;unfold execOp;rw[ho];simp[hx,hy,Instr.sliceAt,BE underlying22,Instr.slice,Instr.sliceBounds,Instr.sliceBound,asIntOf,hf,Result.andThen]
 ·refine⟨by rw[AQ,h.vl],by rw[AQ,h.ll],by omega,λe=>?_,λj u hj=>?_,λj p e h1 h2=>h.gd (f+j) p e (by rw[<-Cn];exact h1) (by rw[<-Cn];exact h2),λx hx hn=>?_⟩
  ·have:a=none:=by
    by_cases hc:c=f
    ·rw[Ai hc]at e;exact e
    ·rw[Ae hc]at e;simpa using e
   have:=h.nil this;omega
  ·rw[IY,Cn]at hj;obtain⟨g,off,h1,h2⟩:=h.row _ _ hj;have hlt:f*2+j<(flatP vs).length:=(Aw.1 hj).1;rw[DE,h.vl]at hlt;refine⟨g,off+f*2,?_,?_⟩
   ·rw[Ae (by omega),h1,CA,BO]
   ·rw[show off+f*2+j=off+(f*2+j)from by omega];exact h2
  ·rw[Ae (by omega)]at hx;cases a with
   |none=>cases hx
   |some y=>cases hx;show K (y.add _).block;rw[I6];exact h.rk y rfl (by omega)
theorem PAt.cutTo(h:PAt K w a n c vs l)(f:Nat)(hf:f<=n):
 ∃a' n' c',(∀(v:World)(ρ:Operand->Value)(o:Oper)(x y:Operand),o.op= .slice 22 x none (some y) none->ρ x= .slice a n c->ρ y= .int .i64 (f:Int)->(execOp ρ o).run prog v= .ok (.value (.slice a' n' c')) v)/\PAt K w a' n' c' (vs.take f) (l.take f):=by
 have hnc:=h.nc;have hfc:f<=c:=by omega
 refine⟨if c=0 then a else a.map (·.add (0*2)),f,c,?_,?_⟩
 ·intro v ρ o x y ho hx hy;unfold execOp;rw[ho];simp[hx,hy,Instr.sliceAt,BE underlying22,Instr.slice,Instr.sliceBounds,Instr.sliceBound,asIntOf,hfc,Result.andThen]
 ·have hlv:=h.vl;have hll:=h.ll;refine⟨by rw[Am];omega,by rw[Am];omega,by omega,λe=>?_,λj u hj=>?_,λj p e h1 h2=>?_,λx hx hn=>?_⟩
  ·have:a=none:=by
    by_cases hc:c=0
    ·rw[Ai hc]at e;exact e
    ·rw[Ae hc]at e;simpa using e
   have:=h.nil this;omega
  ·rw[IZ]at hj;have hlt:j<((flatP vs).take (f*2)).length:=(Aw.1 hj).1;rw[Am,DE,h.vl]at hlt;rw[AO (by omega)]at hj;obtain⟨g,off,h1,h2⟩:=h.row _ _ hj;exact⟨g,off,by rw[Ae (by omega),h1,CA,BO];rfl,h2⟩
  ·have hj1:j<(vs.take f).length:=(Aw.1 h1).1;rw[Am]at hj1;exact h.gd j p e (by rw[AO (by omega)]at h1;exact h1) (by rw[AO (by omega)]at h2;exact h2)
  ·rw[Ae (by omega)]at hx;cases a with
   |none=>cases hx
   |some y=>cases hx;show K (y.add _).block;rw[I6];exact h.rk y rfl (by omega)
theorem PAt.at(h:PAt K w a n c vs l){j:Nat}(hj:j<n):∃g off a1 n1 c1 a2 n2 c2 k x,a=some ⟨g,off,none⟩/\l[j]?=some (k,x)/\w.cell? ⟨g,off+j*2,none⟩=some (.slice a1 n1 c1)/\w.cell? ⟨g,off+j*2+1,none⟩=some (.slice a2 n2 c2)/\Sk K w a1 n1 c1 k/\Sk K w a2 n2 c2 x:=by
 obtain⟨p,hp⟩:∃p,vs[j]?=some p:=⟨_,Ac (by rw[h.vl];exact hj)⟩;obtain⟨e,he⟩:∃e,l[j]?=some e:=⟨_,Ac (by rw[h.ll];exact hj)⟩;obtain⟨a1,n1,c1,a2,n2,c2,h1,h2,h3,h4⟩:=h.gd j p e hp he;obtain⟨f1,f2⟩:=MX vs j p hp;obtain⟨g,off,e1,e2⟩:=h.row _ _ f1;obtain⟨g',off',e1',e2'⟩:=h.row _ _ f2;rw[e1]at e1';cases e1';exact⟨g,off,a1,n1,c1,a2,n2,c2,e.1,e.2,e1,he,by rw[e2,h1],by rw[Cz,e2',h2],h3,h4⟩
end
def OwnL(X:Nat->Prop)(w:World)(base:Nat)(v:Value)(l:PList):Prop:=(∀b,base<=b->X b)/\∃vs:List (Value×Value),vs.length=l.length/\w.ownsRow base 51 2 v l.length (flatP vs)/\∀(j:Nat)(p:Value×Value)(e:List Int×List Int),vs[j]?=some p->l[j]?=some e->Gp2 (λb=>v.ownBlock≠some b/\X b) w p e
theorem OwnL.pat{v:Value}{l:PList}(h:OwnL X w base v l):∃a c vs,v= .slice a l.length c/\PAt X w a l.length c vs l:=by
 obtain⟨hX,vs,h1,⟨h2,h3⟩,h4⟩:=h;rcases h3 with⟨rfl,h5⟩|⟨g,cap,cur,rfl,hbg,hg,hc1,hc2,hc3,hc4⟩
 ·refine⟨none,0,vs,by rw[h5],h1,rfl,by omega,λ_=>⟨h5,rfl⟩,λj u hj=>?_,λj p e q1 q2=>(h4 j p e q1 q2).mono (λ_ h=>h.2),λx hx=>by cases hx⟩;have:vs=[]:=A3 (by omega);subst this;simp[flatP]at hj
 ·refine⟨some ⟨g,0,none⟩,cap,vs,rfl,h1,rfl,hc1,(λe=>by cases e),λj u hj=>⟨g,0,rfl,?_⟩,λj p e q1 q2=>(h4 j p e q1 q2).mono (λ_ h=>h.2),λx hx _=>by cases hx;exact hX _ hbg⟩;rw[Ad _ _ _ _ _ _ hg,AM];have hlt:j<(flatP vs).length:=(Aw.1 hj).1;rw[DE,h1]at hlt;rw[<-hc4,AO (by omega)]at hj;rw[<-Co];exact hj
theorem YT:∃i,prog.info? 51=some i/\i.zero=some (.agg #[.slice none 0 0, .slice none 0 0])/\i.size=2/\i.bytes=48:=by
 have h:(prog.info? 51).map (λi=>(i.zero,i.size,i.bytes))=some (some (.agg #[.slice none 0 0, .slice none 0 0]),2,48):=by kernel_rfl
 cases hq:prog.info? 51 with
 |none=>rw[hq]at h;simp at h
 |some i=>rw[hq]at h;simp at h;exact⟨i,rfl,h.1,h.2.1,h.2.2⟩
theorem OwnL.far{v:Value}{l:PList}(h:OwnL X w base v l)(hb:Below w.heap.size w w'):OwnL X w' base v l:=by
 obtain⟨hX,vs,h1,⟨h2,h3⟩,h4⟩:=h;refine⟨hX,vs,h1,⟨h2,?_⟩,λj p e q1 q2=>(h4 j p e q1 q2).go hb⟩;rcases h3 with q|⟨g,cap,cur,e1,e2,e3,e4⟩
 ·exact .inl q
 ·exact .inr ⟨g,cap,cur,e1,e2,(hb.block g (lt_of_get e3)).trans e3,e4⟩
theorem OwnL.own{v:Value}{l:PList}(h:OwnL X w base v l):∀k,v.ownBlock=some k->base<=k/\k<w.heap.size:=by
 obtain⟨hX,vs,h1,⟨h2,h3⟩,h4⟩:=h;intro k hk;rcases h3 with⟨rfl,_⟩|⟨g,cap,cur,rfl,hbg,hg,_⟩
 ·cases hk
 ·have e:g=k:=by simpa[Value.ownBlock]using hk
  subst e;exact⟨hbg,lt_of_get hg⟩
theorem ZF{v:Value}{l:PList}(hown:OwnL X w base v l)(h:PAt K w a m c vs' l')(hK:∀b,K b->v.ownBlock≠some b/\X b)(hlen:l.length+m<=2932031007400)(hbase:base<=w.heap.size):
 ∃v' w',(∀ty,(Builtin.append_ #[22,22] ty #[v, .slice a m c]).run prog w= .ok v' w')/\OwnL X w' base v' (l++l')/\Below base w w'/\(∀k,k<w.heap.size->v.ownBlock≠some k->w'.heap[k]?=w.heap[k]?)/\(v'.ownBlock=v.ownBlock∨v'.ownBlock=some w.heap.size):=by
 obtain⟨i,hi,hz,hsz,hby⟩:=YT;have hOw:=hown.own;obtain⟨hX,vs,h1,h2,h4⟩:=id hown;cases a with
 |none=>
  obtain⟨rfl,rfl⟩:=h.nil rfl;have hn0:l'=[]:=A3 h.ll;subst hn0;exact⟨v,w,λty=>Ez w base 22 ty 51 i 2 underlying22 hi v _ _ h2,by rw[A4];exact hown,Ak _ _,λ_ _ _=>rfl, .inl rfl⟩
 |some ad=>
  have hc:∀j u,(flatP vs')[j]?=some u->w.cell? (ad.add j)=some u:=by
   intro j u hj;obtain⟨g,off,e1,e2⟩:=h.row j u hj;cases e1;rw[BO];exact e2
  have hone:∀u∈flatP vs',u.oneCell'=true:=by
   intro u hu;obtain⟨p,hp,hup⟩:=BG.1 hu;obtain⟨j,hj,e⟩:=ED.1 hp;have hjl:j<l'.length:=(by rw[h.ll,<-h.vl];exact hj);obtain⟨a1,n1,c1,a2,n2,c2,q1,q2,_,_⟩:=h.gd j p l'[j] (by rw[Ac hj,e]) (Ac hjl);simp at hup;rcases hup with q|q
   ·rw[q,q1];rfl
   ·rw[q,q2];rfl
  obtain⟨v',w',r1,r2,r3,_,r5⟩:=run_append_own_at w base 22 0 51 i _ 2 48 underlying22 hi hz hsz hby rfl (by decide) v l.length (flatP vs) h2 ad m c (flatP vs') (by rw[DE,h.vl]) hc hone (by unfold maxLen;omega) (by omega) hbase;have hkeep:∀{K':Nat->Prop}{p:Value×Value}{e:List Int×List Int},(∀b,K' b->v.ownBlock≠some b/\X b)->Gp2 K' w p e->Gp2 (λb=>v'.ownBlock≠some b/\X b) w' p e:=by
   intro K' p e hK' hg;obtain⟨a1,n1,c1,a2,n2,c2,q1,q2,q3,q4⟩:=hg;have hsk:∀{a:Option Addr}{n c:Nat}{bs:List Int},Sk K' w a n c bs->Sk (λb=>v'.ownBlock≠some b/\X b) w' a n c bs:=by
    intro a n c bs hs;refine⟨⟨?_,hs.ag.nil,hs.ag.l,hs.ag.b⟩,λx hx hn=>?_⟩
    ·rcases hs.ag.i with q|⟨gb,off,q1,q2,q3,q4,q5,q7⟩
     ·exact .inl q
     ·refine .inr ⟨gb,off,q1,q2,q3,q4,q5,λj hj=>?_⟩;rw[<-q7 j hj];exact Ay (r3.block gb (Af (q7 j hj)) (λe=>(hK' _ (hs.k _ q1 q3)).1 e.symm))
    ·refine⟨?_,(hK' _ (hs.k x hx hn)).2⟩;rcases r5 with q|q
     ·rw[q];exact(hK' _ (hs.k x hx hn)).1
     ·rw[q];intro e;have:=hs.old hx hn;simp at e;omega
   exact⟨a1,n1,c1,a2,n2,c2,q1,q2,hsk q3,hsk q4⟩
  refine⟨v',w',λty=>r1,⟨hX,vs++vs',by simp[h1,h.vl,h.ll],?_,?_⟩,?_,λk hk hn=>r3.block k hk (λe=>hn e.symm),r5⟩
  ·rw[Ab,h.ll,JY];exact r2
  ·intro j p e q1 q2;by_cases hj:j<vs.length
   ·rw[AV hj]at q1;rw[AV (by omega)]at q2;exact hkeep (λb hb=>hb) (h4 j p e q1 q2)
   ·rw[AS (by omega)]at q1;rw[AS (by omega),<-h1]at q2;exact hkeep hK (h.gd _ p e q1 q2)
  ·exact(Ak _ _).grown r3 hbase (λk hk=>(hOw k hk).1)
theorem Tz{v:Value}{l:PList}(hown:OwnL X w base v l)(h:PAt K w a m c vs' l')(hK:∀b,K b->v.ownBlock≠some b/\X b)(hlen:l.length+m<=2932031007400)(hbase:base<=w.heap.size):
 ∃v' w',(∀ty,(Builtin.append_ #[22,22] ty #[v, .slice a m c]).run prog w= .ok v' w')/\OwnL X w' base v' (l++l')/\Below base w w':=by
 obtain⟨v',w',h1,h2,h3,_⟩:=ZF hown h hK hlen hbase;exact⟨v',w',h1,h2,h3⟩
theorem OwnL.new(h:New w w' g #[] 51)(hb:base<=w.heap.size)(hX:∀b,base<=b->X b):OwnL X w' base (.slice (some ⟨g,0,none⟩) 0 0) []:=⟨hX,[],rfl,⟨rfl, .inr ⟨g,0,#[],rfl,by rw[h.hg];exact hb,h.row,Aa _,by unfold maxLen;omega,rfl,rfl⟩⟩,λj p e q=>by simp at q⟩
theorem PAt.one{a':Option Addr}{n' c':Nat}{k x:List Int}(h:New w w' g #[.slice a n c, .slice a' n' c'] 51)(h1:Sk K w a n c k)(h2:Sk K w a' n' c' x)(hKg:K g):PAt K w' (some ⟨g,0,none⟩) 1 1 [(.slice a n c, .slice a' n' c')] [(k,x)]:=by
 refine⟨rfl,rfl,Aa _,(λe=>by cases e),λj u hj=>⟨g,0,rfl,?_⟩,(λj p e q1 q2=>?_),λx hx _=>by cases hx;exact hKg⟩
 ·rw[Ad _ _ _ _ _ _ h.row,AM]
  match j,hj with
  |0,hj=>exact hj
  |1,hj=>exact hj
  |j+2,hj=>simp[flatP]at hj
 ·match j,q1,q2 with
  |0,q1,q2=>
   simp at q1 q2;subst q1 q2;exact⟨a,n,c,a',n',c',rfl,rfl,h1.go h.below,h2.go h.below⟩
  |j+1,q1,_=>simp at q1
theorem Tri.noslice{t:Tr}(h:Tri K w g t)(o:Nat)(a:Option Addr)(n c:Nat):w.cell? ⟨g,o,none⟩≠some (.slice a n c):=by
 obtain⟨⟨v,h1,h2⟩,h3⟩:=h;rw[Ad _ _ _ _ _ _ h1];cases o with
 |zero=>
  intro e;simp at e;subst e;cases t with
  |no=>cases h2
  |leaf p x=>obtain⟨_,_,_,_,_,_,e,_⟩:=h2;cases e
  |ext p t=>obtain⟨_,_,_,_,e,_⟩:=h2;cases e
  |br k x=>obtain⟨_,_,_,_,e,_⟩:=h2;cases e
 |succ o=>simp
theorem PAt.touch{t:Tr}{l:PList}(h:PAt K w a n c vs l)(ht:Touch g w w')(hT:Tri K' w g t):PAt K w' a n c vs l:=by
 refine⟨h.vl,h.ll,h.nc,h.nil,λj u hj=>?_,λj p e h1 h2=>?_,h.rk⟩
 ·obtain⟨g',off,h1,h2⟩:=h.row j u hj;refine⟨g',off,h1,?_⟩;have hu:∃a n c,u= .slice a n c:=by
   have hlt:j<(flatP vs).length:=(Aw.1 hj).1;have hu:u∈flatP vs:=A6 hj;obtain⟨p,hp,hup⟩:=BG.1 hu;obtain⟨i,hi,e⟩:=ED.1 hp;have hjl:i<l.length:=(by rw[h.ll,<-h.vl];exact hi);obtain⟨a1,n1,c1,a2,n2,c2,q1,q2,_,_⟩:=h.gd i p l[i] (by rw[Ac hi,e]) (Ac hjl);simp at hup;rcases hup with q|q
   ·exact⟨_,_,_,q.trans q1⟩
   ·exact⟨_,_,_,q.trans q2⟩
  obtain⟨a1,n1,c1,rfl⟩:=hu;have hne:g'≠g:=λe=>by subst e;exact hT.noslice _ _ _ _ h2
  rw[<-h2];exact Ay (ht.block g' (Af h2) hne)
 ·obtain⟨a1,n1,c1,a2,n2,c2,q1,q2,q3,q4⟩:=h.gd j p e h1 h2;exact⟨a1,n1,c1,a2,n2,c2,q1,q2,q3.touch ht hT,q4.touch ht hT⟩
theorem PAt.tou{l:PList}(h:PAt K w a n c vs l)(ht:Touch g w w')(hK:¬K g):PAt K w' a n c vs l:=by
 refine⟨h.vl,h.ll,h.nc,h.nil,λj u hj=>?_,λj p e h1 h2=>?_,h.rk⟩
 ·obtain⟨g',off,h1,h2⟩:=h.row j u hj;have hlt:j<(flatP vs).length:=(Aw.1 hj).1;rw[DE,h.vl]at hlt;have hk:=h.rk _ h1 (by omega);exact⟨g',off,h1,(Ay (a:=⟨g',off+j,none⟩) (ht.block g' (Af h2) (λe=>hK (e▸hk)))).trans h2⟩
 ·obtain⟨a1,n1,c1,a2,n2,c2,q1,q2,q3,q4⟩:=h.gd j p e h1 h2;exact⟨a1,n1,c1,a2,n2,c2,q1,q2,q3.tou ht hK,q4.tou ht hK⟩
theorem KpU.putObj{U:Nat->Prop}(M:Nat){W:World}{l:Nat}{o:Obj}(o':Obj)(hl:W.heap[l]?=some o)(ho:o.isCells=false):KpU U M W (W.putObj l o'):=⟨by simp,λk cs T fr _ _ _ hh=>(Dw (λe=>by subst e;rw[hh]at hl;cases hl;cases ho)).trans hh⟩
theorem T1{m:Nat}{n:Nat}{Q:Exit->Act->World->Prop}{env:Env}{w:World}{g:Operand}{p q:Tmp}{assign body:Code}(gf:Nat)(lb:Array Value)(hg:∀fb,ev env fb g= .func (.func gf) #[] lb)(hm:1<=m)(hp:p<n)(hq:q<n)(eg:∀args w,(callFunc gf args).run prog w= .ok (.enter gf args) w)
 {U:Nat->Prop} {L:PList} (hit:∀(l:Nat)(J:PList->World->Prop)(W:World),Below w.heap.size w W->Vis l W.heap.size L U J (λ_=>False)->J [] W->Calls prog gf (#[.func (.yield l) #[] #[]]++lb) W λe W'=>∃u,e= .returned u/\J L W')
 (hU:∀b,U b->b<w.heap.size)
 (I:PList->World->Prop) (hI:OwnFrom w.heap.size I) (h0:I [] w) (Ax:Value->Value->Env->Prop)
 (hassign:∀(l:Nat)(u v:Value)(W:World),CW (some l) (m-1-1) prog [] n (Exit.then (λa' W'=>W'=W/\∃e,Frm [] n e a'/\Ax u v e) (λ_ _ _=>False)) assign ((q,v)::(p,u)::env) W)
 (hbody:∀(l:Nat)(pre:PList)(W:World)(M:Nat)(a a':Option Addr)(n1 c1 n2 c2:Nat)(k x:List Int)(e:Env),w.heap.size<=l->(∃r,W.heap[l]?=some (.loop r))->I pre W->(pre++[(k,x)])<+:L->w.heap.size<M->M<=W.heap.size->Sk (λb=>M<=b) W a n1 c1 k->Sk (λb=>M<=b) W a' n2 c2 x->Ax (.slice a n1 c1) (.slice a' n2 c2) e->
   CW (some l) (m-1-1) prog [] n (ownPostG w.heap.size (KpU U M) I (λ_ _ _=>False) (pre++[(k,x)]) W) body e W)
 (hdone:∀(D:Nat)(W:World),w.heap.size<=D->I L W->W.heap[D]?=some (.deferred (some []))->NW [{target:= .collected D,args:=#[]}] n Q .normal env W):
 CW none m prog [] n Q (.rangeFunc g #[p,q] assign body) env w:=λa ha=>by
 refine wpIn_rangeFunc (F:=Fence.wide) ?_;intro fn hfn;obtain⟨rec,hrec⟩:∃rec:LoopState->Option Code->Loop,rec=λst pe=>{state:=st,pending:=pe,fn,tmps:=a.tmps,params:=#[p,q],assign,body,defers:=w.heap.size}:=⟨_,rfl⟩;obtain⟨D,hD⟩:∃D,w.heap.size=D:=⟨_,rfl⟩;obtain⟨W1,hW1⟩:∃W1,(w.alloc (.deferred (some []))).alloc (.loop (rec .ready none))=W1:=⟨_,rfl⟩;have hL1:W1.heap[D+1]?=some (.loop (rec .ready none)):=by
  rw[<-hW1,<-hD];have:=World.alloc_heap_new (w.alloc (.deferred (some []))) (.loop (rec .ready none));rwa [World.size_alloc]at this
 have hK1:W1.heap[D]?=some (.deferred (some [])):=by
  rw[<-hW1,<-hD];exact(Az _ _ _ (by simp)).trans (World.alloc_heap_new w _)
 have hI1:I [] W1:=by rw[<-hW1];exact hI.alloc _ (hI.alloc _ h0)
 have hs1:W1.heap.size=D+2:=by rw[<-hW1];simp[hD]
 have hb1:Below w.heap.size w W1:=by
  rw[<-hW1];exact((Ak _ w).alloc (Aa _) _).alloc (by simp) _
 refine⟨D+1,[{target:= .collected D,args:=#[]}],W1,{target:= .fn (.func gf) lb,args:=#[.func (.yield (D+1)) #[] #[]]},W1,gf,#[.func (.yield (D+1)) #[] #[]]++lb,W1,?_,?_,?_,?_,λ_=>hm,?_⟩
 ·rw[<-hW1,hrec,<-hD];exact run_enterLoop_outer _ _ _ _ _
 ·simp only[resolve,show a.eval g= .func (.func gf) #[] lb from by rw[ha.ev];exact hg _];simp[go_sem]
 ·intro f' hf';exact trivial
 ·simp[invoke,go_sem,eg]
 ·refine Fk.2 ?_;have V:Vis (D+1) W1.heap.size L U (λpre W=>I pre W/\W.heap[D+1]?=some (.loop (rec .ready none))/\W.heap[D]?=some (.deferred (some []))) (λ_=>False):=by
   refine⟨?_,λh _=>h,λb hu=>B7 (hU b hu) hb1.size,?_⟩
   ·rintro pre A B⟨h1,h2,h3⟩ hAB;exact⟨hI pre A B none h1 (Qv hAB) (λr e=>by cases e),(hAB.block _ (lt_of_get h2)).trans h2,(hAB.block _ (lt_of_get h3)).trans h3⟩
   ·rintro pre W M b1 b2 n1 c1 n2 c2 k x⟨hi,hl,hk⟩ hN hM0 hM hs hs';have hlt:D+1<W.heap.size:=lt_of_get hl;have hy:=run_yield (P:=prog) (args:=#[.slice b1 n1 c1, .slice b2 n2 c2]) hl (by rw[hrec];rfl);rw[hrec]at hy;refine M7 (m:=m-1-1) ⟨fn,_,assign,body,hy,roundIn_of_wpIn (F:=Fence.wide) (n:=m-1-1) hfn ?_⟩;have hfr:Frm [] n ((q, .slice b2 n2 c2)::(p, .slice b1 n1 c1)::env) {tmps:=((#[p,q]:Array Tmp).zip #[.slice b1 n1 c1, .slice b2 n2 c2]).foldl (λt(p,v)=>t.setIfInBounds p v) a.tmps,defers:=[]}:=by
     have:=Fn (Fn (⟨rfl,ha.sz,ha.get⟩:Frm [] n env {tmps:=a.tmps,defers:=[]}) hp (.slice b1 n1 c1)) hq (.slice b2 n2 c2);have e:((#[p,q]:Array Tmp).zip #[Value.slice b1 n1 c1, .slice b2 n2 c2]).foldl (λt(p,v)=>t.setIfInBounds p v) a.tmps=(a.tmps.setIfInBounds p (.slice b1 n1 c1)).setIfInBounds q (.slice b2 n2 c2):=(by simp);rw[e];exact this
    refine wpIn_mono (hassign (D+1) (.slice b1 n1 c1) (.slice b2 n2 c2) W _ hfr) ?_;intro ex a' W' hq1;cases ex with
    |normal=>
     obtain⟨rfl,e,hF,hA⟩:=hq1;refine⟨_,run_beginRound hl (by rw[hrec]),?_⟩;have hkb:KpU U W'.heap.size W' (W'.putObj (D+1) (.loop {rec .ready none with state:= .busy})):=KpU.putObj _ _ hl rfl;have hl2:(W'.putObj (D+1) (.loop {rec .ready none with state:= .busy})).heap[D+1]?=some (.loop {rec .ready none with state:= .busy}):=World.putObj_heap_same hlt;have hk2:(W'.putObj (D+1) (.loop {rec .ready none with state:= .busy})).heap[D]?=some (.deferred (some [])):=(Dw (by omega)).trans hk;have hUM:∀b,M<=b->¬U b:=λb hb hu=>by have:=hU b hu;omega
     refine wpIn_mono (hbody (D+1) pre _ M b1 b2 n1 c1 n2 c2 k x e (by omega) ⟨_,hl2⟩ (hI.putObj _ hi (by omega) hl rfl) hN (by omega) (by simpa using hM) (hs.kp hkb (Aa _) hUM) (hs'.kp hkb (Aa _) hUM) hA a' hF) ?_;intro ex a3 W3 hp3;cases ex with
     |normal=>
      obtain⟨hk3,hkp3,hi3⟩:=hp3;have hl3:=hk3.same _ _ (by omega) hl2 rfl;have hd3:=hk3.same _ _ (by omega) hk2 rfl;have hr:=run_endRound (P:=prog) none hl3;refine⟨_,_,hr, .inl ⟨rfl,⟨hI.putObj _ hi3 (by omega) hl3 rfl,?_,?_⟩,?_⟩⟩
      ·rw[hrec];exact World.putObj_heap_same (lt_of_get hl3)
      ·exact(Dw (by omega)).trans hd3
      ·exact((KpU.putObj M _ hl rfl).trans hkp3 (Aa _)).trans (KpU.putObj M _ hl3 rfl) (Aa _)
     |exit id=>exact hp3.2.elim
     |goto l=>exact hp3.2.elim
     |ret=>exact hp3.2.elim
     |panic ch=>exact hp3.elim
     |outgrown=>exact hp3.elim
    |exit id=>exact hq1.elim
    |goto l=>exact hq1.elim
    |ret=>exact hq1.elim
    |panic ch=>exact hq1.elim
    |outgrown=>exact hq1.elim
  refine(hit (D+1) _ W1 hb1 V ⟨hI1,hL1,hK1⟩).mono ?_;rintro e W2⟨u,rfl,hi,hl,hk⟩;refine⟨none,_,by have:=run_endLoop (P:=prog) hl (by rw[hrec];simp);rw[hrec]at this;exact this,?_⟩;refine hdone D _ (by omega) (hI.putObj _ hi (by omega) hl rfl) ((Dw (by omega)).trans hk) _ ⟨?_,ha.sz,ha.get⟩;show _::a.defers=_;rw[ha.df]
end Go.Proofs.YtefhepcplempkaaGreat
