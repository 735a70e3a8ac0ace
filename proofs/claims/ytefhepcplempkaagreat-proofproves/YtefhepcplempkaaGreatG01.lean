/- What a tree has behind a Put. -/
import Derived.Test.YtefhepcplempkaaGreatAK
import Derived.Test.YtefhepcplempkaaGreatG00
import Derived.Lib.Bytes
import Derived.Deep.OwnRows
import Derived.Lib.AppendZeros
set_option linter.unusedVariables false
set_option maxRecDepth 100000
set_option maxHeartbeats 1000000
open Go.Proofs.Tryz Go.RowKit
namespace Go.Proofs.YtefhepcplempkaaGreat
namespace Tr
def Hd(a b:List Int):Prop:=a=[]∨b=[]∨∃i a' j b',a=i::a'/\b=j::b'/\i≠j
theorem G0(p q:List Int):∃Q a b,p=Q++a/\q=Q++b/\Ni.com p q=Q.length/\Hd a b:=by
 obtain⟨h1,h2⟩:=Ni.com_le p q;refine⟨p.take (Ni.com p q),p.drop (Ni.com p q),q.drop (Ni.com p q),(Be _ _).symm,?_,?_,?_⟩
 ·rw[Ni.com_take,Be]
 ·rw[Am];omega
 ·by_cases hp:Ni.com p q<p.length
  ·by_cases hq:Ni.com p q<q.length
   ·have hs:=Ni.com_stop p q hp hq;right;right;refine⟨p.getD (Ni.com p q) 0,p.drop (Ni.com p q+1),q.getD (Ni.com p q) 0,q.drop (Ni.com p q+1),?_,?_,hs⟩
    ·rw[Bz hp];simp[List.getD,Ac hp]
    ·rw[Bz hq];simp[List.getD,Ac hq]
   ·right;left;exact BJ (by omega)
  ·left;exact BJ (by omega)
theorem RA(Q q':List Int):q'.take Q.length=Q↔∃s,q'=Q++s:=by
 constructor
 ·intro h;exact⟨q'.drop Q.length,by conv=>lhs;rw[<-Be Q.length q',h]⟩
 ·rintro⟨s,rfl⟩;simp
theorem N6(p:List Int)(c:Tr)(s:List Int):get (ext p c) (p++s)=get c s:=by simp[get]
theorem Fp(p:List Int)(c:Tr)(q:List Int)(h:¬∃s,q=p++s):get (ext p c) q=[]:=by
 rw[get,Ae (λe=>h ((RA p q).1 e))]
theorem Hu(p:List Int)(t:Tr)(s:List Int):get (und p t) (p++s)=get t s:=by rw[R9];simp
theorem IK(p:List Int)(t:Tr)(q:List Int)(h:¬∃s,q=p++s):get (und p t) q=[]:=by
 rw[R9,Ae (λe=>h ((RA p q).1 e))]
theorem WG{a b x v:List Int}(hab:Hd a b)(hne:a≠b)(ha:Nb a)(hb:Nb b)(s:List Int)(hs:Nb s):get (addT (add nk [] a x) b v) s=if s=b then v else if s=a then x else[]:=by
 cases a with
 |nil=>
  cases b with
  |nil=>exact absurd rfl hne
  |cons j b'=>
   simp only[add,addT];cases s with
   |nil=>simp[get]
   |cons i s'=>
    simp only[get];by_cases hij:i=j
    ·subst hij;rw[C1];simp[get]
    ·rw[Cx _ _ (by have:=hs.head;have:=hb.head;omega)];simp[nk,get,hij]
 |cons i a'=>
  cases b with
  |nil=>
   simp only[add,addT];cases s with
   |nil=>simp[get]
   |cons h s'=>
    simp only[get];by_cases hij:h=i
    ·subst hij;rw[C1];simp[get]
    ·rw[Cx _ _ (by have:=hs.head;have:=ha.head;omega)];simp[nk,get,hij]
  |cons j b'=>
   have hij:i≠j:=by
    rcases hab with h|h|⟨_,_,_,_,h1,h2,h3⟩
    ·cases h
    ·cases h
    ·cases h1;cases h2;exact h3
   simp only[add,addT];cases s with
   |nil=>simp[get]
   |cons h s'=>
    simp only[get];have b1:=hs.head;have b2:=ha.head;have b3:=hb.head;by_cases h1:h=j
    ·subst h1;rw[C1];simp[get,Ne.symm hij]
    ·rw[Cx _ _ (by omega)];by_cases h2:h=i
     ·subst h2;rw[C1];simp[get,h1]
     ·rw[Cx _ _ (by omega)];simp[nk,get,h1,h2]
theorem Us{i:Int}{b v:List Int}{U:Tr}(hi:0<=i)(hab:Hd [i] b)(hb:Nb b)(s:List Int)(hs:Nb s):get (add (upd nk i.toNat U) [] b v) s=if s=b then v else match s with|[]=>[]|h::r=>if h=i then get U r else[]:=by
 cases b with
 |nil=>
  simp only[add];cases s with
  |nil=>simp[get]
  |cons h s'=>
   simp only[get];have b1:=hs.head;by_cases hij:h=i
   ·subst hij;rw[C1];simp
   ·rw[Cx _ _ (by omega)];simp[nk,get,hij]
 |cons j b'=>
  have hij:i≠j:=by
   rcases hab with h|h|⟨_,_,_,_,h1,h2,h3⟩
   ·cases h
   ·cases h
   ·cases h1;cases h2;exact h3
  simp only[add];cases s with
  |nil=>simp[get]
  |cons h s'=>
   simp only[get];have b1:=hs.head;have b3:=hb.head;by_cases h1:h=j
   ·subst h1;rw[C1];simp[get,Ne.symm hij]
   ·rw[Cx _ _ (by omega)];by_cases h2:h=i
    ·subst h2;rw[C1];simp[h1]
    ·rw[Cx _ _ (by omega)];simp[nk,get,h1,h2]
theorem Nb.of_app{p q:List Int}(h:Nb (p++q)):Nb p/\Nb q:=⟨λi hi=>h i (Dp _ hi),λi hi=>h i (Ey _ hi)⟩
theorem N7{Q a b:List Int}:Q++a=Q++b↔a=b:=⟨List.append_cancel_left,λh=>by rw[h]⟩
theorem WH:∀(t:Tr)(B:Nat)(q v q':List Int),(t=no∨Ok B t)->Nb q->Nb q'->get (put t q v) q'=if q'=q then v else get t q':=by
 intro t
 induction t with
 |no=>intro B q v q' _ _ _;simp[put,get]
 |leaf p x=>
  intro B q v q' h hq hq';have hp:Nb p:=by
   rcases h with h|h
   ·cases h
   ·exact h.1
  simp only[put];by_cases e:q=p
  ·rw[Ai e,get,get];by_cases h2:q'=q
   ·rw[Ai h2,Ai h2]
   ·rw[Ae h2,Ae h2,Ae (by rw[<-e];exact h2)]
  ·rw[Ae e];obtain⟨Q,a,b,rfl,rfl,hc,hab⟩:=G0 p q;rw[hc];simp only[CX,Cl];have hne:a≠b:=λq=>e (by rw[q]);obtain⟨hQ,ha⟩:=hp.of_app;obtain⟨_,hb⟩:=hq.of_app;by_cases hs:∃s,q'=Q++s
   ·obtain⟨s,rfl⟩:=hs;rw[Hu,WG hab hne ha hb s hq'.of_app.2,get];simp only[N7]
   ·rw[IK _ _ _ hs,Ae (λe=>hs ⟨b,e⟩),get,Ae (λe=>hs ⟨a,e⟩)]
 |ext p c ih=>
  intro B q v q' h hq hq';have hok:Ok B (ext p c):=by
   rcases h with h|h
   ·cases h
   ·exact h
  obtain⟨h1,h2,h3,h4,h5⟩:=hok;obtain⟨Q,a,b,rfl,rfl,hc,hab⟩:=G0 p q;simp only[put];rw[hc];obtain⟨hQ,ha⟩:=h1.of_app;obtain⟨_,hb⟩:=hq.of_app;by_cases ea:a=[]
  ·subst ea;simp only[A4]at h2 h3 h5⊢;rw[Ai trivial];simp only[Cl];by_cases hs:∃s,q'=Q++s
   ·obtain⟨s,rfl⟩:=hs;rw[N6,N6,ih _ b v s (.inr h5) hb hq'.of_app.2];simp only[N7]
   ·rw[Fp _ _ _ hs,Fp _ _ _ hs,Ae (λe=>hs ⟨b,e⟩)]
  ·obtain⟨i,a',rfl⟩:∃i a',a=i::a':=by
    cases a with
    |nil=>exact absurd rfl ea
    |cons i a'=>exact⟨i,a',rfl⟩
   rw[Ae (by simp)];have e1:(Q++i::a').getD Q.length 0=i:=(by simp[List.getD]);have e2:(Q++i::a').drop (Q.length+1)=a':=by
    rw[show Q++i::a'=(Q++[i])++a' from by simp,show Q.length+1=(Q++[i]).length from by simp,Cl]
   have hi:=ha.head;have hh:Hd [i] b:=by
    rcases hab with h|h|⟨_,_,j,b',h6,h7,h8⟩
    ·cases h
    ·exact .inr (.inl h)
    ·cases h6;exact .inr (.inr ⟨i,[],j,b',rfl,h7,h8⟩)
   rw[e1,e2];simp only[CX,Cl];by_cases hs:∃s,q'=Q++s
   ·obtain⟨s,rfl⟩:=hs;rw[Hu,Us hi.1 hh hb s hq'.of_app.2];simp only[N7];by_cases hsb:s=b
    ·rw[Ai hsb,Ai hsb]
    ·rw[Ae hsb,Ae hsb];cases s with
     |nil=>
      rw[Fp];rintro⟨r,hr⟩;have:=Au List.length hr;simp at this
     |cons g r=>
      simp only;by_cases hhi:g=i
      ·subst hhi;rw[Ai rfl];by_cases hr:∃u,r=a'++u
       ·obtain⟨u,rfl⟩:=hr;rw[Hu,show Q++g::(a'++u)=(Q++g::a')++u from by simp,N6]
       ·rw[IK _ _ _ hr,Fp];rintro⟨u,hu⟩;exact hr ⟨u,by simpa using hu⟩
      ·rw[Ae hhi,Fp];rintro⟨u,hu⟩;simp at hu;exact hhi hu.1
   ·rw[IK _ _ _ hs,Ae (λe=>hs ⟨b,e⟩),Fp];rintro⟨u,rfl⟩;exact hs ⟨i::a'++u,by simp⟩
 |br k x ih=>
  intro B q v q' h hq hq';have hok:Ok B (br k x):=by
   rcases h with h|h
   ·cases h
   ·exact h
  cases q with
  |nil=>
   simp only[put];cases q' with
   |nil=>simp[get]
   |cons h r=>simp[get]
  |cons i r=>
   simp only[put];cases q' with
   |nil=>simp[get]
   |cons h s=>
    simp only[get];have b1:=hq.head;have b2:=hq'.head;by_cases hi:h=i
    ·subst hi
     rw[C1,ih _ (B-1) r v s (by
      rcases hok.1 h.toNat with h0|⟨_,_,h3⟩
      ·exact .inl h0
      ·exact .inr h3) hq.tail hq'.tail]
     simp
    ·rw[Cx _ _ (by omega)];simp[hi]
theorem WI{k:Nat->Tr}{x:List Int}(h:two k x)(i:Nat){t:Tr}(ht:t≠no):two (upd k i t) x:=by
 have hk:∀j,k j≠no->upd k i t j≠no:=λj hj=>by
  unfold upd;by_cases e:j=i
  ·rw[Ai e];exact ht
  ·rw[Ae e];exact hj
 rcases h with⟨a,b,h1,h2,h3⟩|⟨h1,a,h2⟩
 ·exact .inl ⟨a,b,h1,hk a h2,hk b h3⟩
 ·exact .inr ⟨h1,a,hk a h2⟩
theorem WJ{k:Nat->Tr}{x v:List Int}(h:two k x)(hv:v≠[]):two k v:=by
 rcases h with⟨a,b,h1,h2,h3⟩|⟨h1,a,h2⟩
 ·exact .inr ⟨hv,a,h2⟩
 ·exact .inr ⟨hv,a,h2⟩
theorem Ok.mono{B:Nat}:∀{t:Tr}{C:Nat},Ok B t->B<=C->Ok C t:=by
 intro t
 induction t generalizing B with
 |no=>intro C h _;exact h
 |leaf p v=>intro C h hc;exact⟨h.1,by have:=h.2.1;omega,h.2.2⟩
 |ext p c ih=>intro C h hc;exact⟨h.1,h.2.1,by have:=h.2.2.1;omega,h.2.2.2.1,ih h.2.2.2.2 (by omega)⟩
 |br k x ih=>
  intro C h hc;refine⟨λi=>?_,h.2⟩;rcases h.1 i with h0|⟨h1,h2,h3⟩
  ·exact .inl h0
  ·exact .inr ⟨h1,by omega,ih i h3 (by omega)⟩
theorem N8:∀(t:Tr)(B:Nat)(q v:List Int),(t=no∨Ok B t)->Nb q->q.length<=B->v≠[]->Ok B (put t q v):=by
 intro t
 induction t with
 |no=>intro B q v _ hq hl hv;exact⟨hq,hl,hv⟩
 |leaf p x=>
  intro B q v h hq hl hv;have hok:Ok B (leaf p x):=by
   rcases h with h|h
   ·cases h
   ·exact h
  obtain⟨hp,hpl,hx⟩:=hok;simp only[put];by_cases e:q=p
  ·rw[Ai e];exact⟨hq,hl,hv⟩
  ·rw[Ae e];obtain⟨Q,a,b,rfl,rfl,hc,hab⟩:=G0 p q;rw[hc];simp only[CX,Cl];have hne:a≠b:=λq=>e (by rw[q]);obtain⟨hQ,ha⟩:=hp.of_app;obtain⟨_,hb⟩:=hq.of_app;simp only[Ab]at hl hpl;refine Ok.mono (PS (B:=B-Q.length) hQ ?_) (by omega);cases a with
   |nil=>
    cases b with
    |nil=>exact absurd rfl hne
    |cons j b'=>
     simp only[add,addT];have b3:=hb.head;refine⟨λi=>?_, .inr ⟨hx,j.toNat,by rw[C1];simp⟩⟩;by_cases hi:i=j.toNat
     ·subst hi;rw[C1];simp at hl;exact .inr ⟨by omega,by omega,hb.tail,by omega,hv⟩
     ·rw[Cx _ _ hi];exact .inl rfl
   |cons i a'=>
    have b2:=ha.head;cases b with
    |nil=>
     simp only[add,addT];refine⟨λj=>?_, .inr ⟨hv,i.toNat,by rw[C1];simp⟩⟩;by_cases hi:j=i.toNat
     ·subst hi;rw[C1];simp at hpl;exact .inr ⟨by omega,by omega,ha.tail,by omega,hx⟩
     ·rw[Cx _ _ hi];exact .inl rfl
    |cons j b'=>
     have hij:i≠j:=by
      rcases hab with h|h|⟨_,_,_,_,h1,h2,h3⟩
      ·cases h
      ·cases h
      ·cases h1;cases h2;exact h3
     have b3:=hb.head;simp at hpl hl;simp only[add,addT];refine⟨λh=>?_, .inl ⟨i.toNat,j.toNat,by omega,?_,?_⟩⟩
     ·by_cases h1:h=j.toNat
      ·subst h1;rw[C1];exact .inr ⟨by omega,by omega,hb.tail,by omega,hv⟩
      ·rw[Cx _ _ h1];by_cases h2:h=i.toNat
       ·subst h2;rw[C1];exact .inr ⟨by omega,by omega,ha.tail,by omega,hx⟩
       ·rw[Cx _ _ h2];exact .inl rfl
     ·rw[Cx _ _ (by omega),C1];simp
     ·rw[C1];simp
 |ext p c ih=>
  intro B q v h hq hl hv;have hok:Ok B (ext p c):=by
   rcases h with h|h
   ·cases h
   ·exact h
  obtain⟨h1,h2,h3,h4,h5⟩:=hok;obtain⟨Q,a,b,rfl,rfl,hc,hab⟩:=G0 p q;simp only[put];rw[hc];obtain⟨hQ,ha⟩:=h1.of_app;obtain⟨_,hb⟩:=hq.of_app;simp only[Ab]at hl h3 h5;by_cases ea:a=[]
  ·subst ea;simp only[A4]at h2 h3 h5⊢;rw[Ai trivial];simp only[Cl];refine⟨hQ,h2,by omega,?_,?_⟩
   ·cases c with
    |br k x=>cases b<;>simp[put,isBr]
    |no=>simp[isBr]at h4
    |leaf _ _=>simp[isBr]at h4
    |ext _ _=>simp[isBr]at h4
   ·exact ih (B-Q.length) b v (.inr (by simpa using h5)) hb (by omega) hv
  ·obtain⟨i,a',rfl⟩:∃i a',a=i::a':=by
    cases a with
    |nil=>exact absurd rfl ea
    |cons i a'=>exact⟨i,a',rfl⟩
   rw[Ae (by simp)];have e1:(Q++i::a').getD Q.length 0=i:=(by simp[List.getD]);have e2:(Q++i::a').drop (Q.length+1)=a':=by
    rw[show Q++i::a'=(Q++[i])++a' from by simp,show Q.length+1=(Q++[i]).length from by simp,Cl]
   rw[e1,e2];simp only[CX,Cl];have b2:=ha.head;simp at h3 h5;refine Ok.mono (PS (B:=B-Q.length) hQ ?_) (by omega);have hU:Ok (B-Q.length-1) (und a' c):=Ok.mono (PS ha.tail h5) (by omega);cases b with
   |nil=>
    simp only[add];refine⟨λj=>?_, .inr ⟨hv,i.toNat,by rw[C1];exact hU.ne⟩⟩;by_cases hi:j=i.toNat
    ·subst hi;rw[C1];exact .inr ⟨by omega,by omega,hU⟩
    ·rw[Cx _ _ hi];exact .inl rfl
   |cons j b'=>
    have hij:i≠j:=by
     rcases hab with h|h|⟨_,_,_,_,h6,h7,h8⟩
     ·cases h
     ·cases h
     ·cases h6;cases h7;exact h8
    have b3:=hb.head;simp at hl;simp only[add];refine⟨λh=>?_, .inl ⟨i.toNat,j.toNat,by omega,?_,?_⟩⟩
    ·by_cases h6:h=j.toNat
     ·subst h6;rw[C1];exact .inr ⟨by omega,by omega,hb.tail,by omega,hv⟩
     ·rw[Cx _ _ h6];by_cases h7:h=i.toNat
      ·subst h7;rw[C1];exact .inr ⟨by omega,by omega,hU⟩
      ·rw[Cx _ _ h7];exact .inl rfl
    ·rw[Cx _ _ (by omega),C1];exact hU.ne
    ·rw[C1];simp
 |br k x ih=>
  intro B q v h hq hl hv;have hok:Ok B (br k x):=by
   rcases h with h|h
   ·cases h
   ·exact h
  cases q with
  |nil=>exact⟨hok.1,WJ hok.2 hv⟩
  |cons i r=>
   simp only[put];have b1:=hq.head;simp at hl
   have hs:Ok (B-1) (put (k i.toNat) r v):=ih i.toNat (B-1) r v (by
    rcases hok.1 i.toNat with h0|⟨_,_,h3⟩
    ·exact .inl h0
    ·exact .inr h3) hq.tail (by omega) hv
   refine⟨λj=>?_,WI hok.2 _ hs.ne⟩;by_cases hj:j=i.toNat
   ·subst hj;rw[C1];exact .inr ⟨by omega,by omega,hs⟩
   ·rw[Cx _ _ hj];exact hok.1 j
end Tr
namespace Tr
end Tr
end Go.Proofs.YtefhepcplempkaaGreat
namespace Go.Proofs.YtefhepcplempkaaGreat.Ni
def Row(g:Nat)(w:World)(R:List Int):Prop:=w.heap[g]?=some (.cells (R.map (Value.int .u8)).toArray 5)
theorem Row.set{g:Nat}{w:World}{R:List Int}(h:Row g w R)(i:Nat)(x:Int):Row g (w.setCell ⟨g,i,none⟩ (.int .u8 x)) (R.set i x):=by
 have:=AX w g i _ 5 (.int .u8 x) h;unfold Row;rw[this];congr 2;rw[DJ,List.map_set]
theorem Row.cell{g:Nat}{w:World}{R:List Int}(h:Row g w R){i:Nat}(hi:i<R.length):w.cell? ⟨g,i,none⟩=some (.int .u8 (R.getD i 0)):=by
 rw[Ad _ _ _ _ _ _ h];simp[Ac hi]
theorem Row.frozen{g:Nat}{w:World}{R:List Int}(h:Row g w R)(i:Nat):w.frozen? ⟨g,i,none⟩=false:=AY _ _ _ _ _ h
theorem made_bytes(n:Nat):madeCells #[Value.int .u8 0] n=((List.replicate n (0:Int)).map (Value.int .u8)).toArray:=by
 apply Array.ext';rw[toList_madeCells_one];simp
theorem row_ag{w:World}{g n:Nat}{bs:List Int}(h:Row g w bs)(hl:bs.length=n)(hb:∀x∈bs,0<=x/\x<256)(hn:n<=9223372036854775807):Ag w (some ⟨g,0,none⟩) n n bs:=by
 refine⟨?_,(λh=>by cases h),hl,hb⟩;by_cases h0:n=0
 ·exact .inl ⟨h0,A3 (by omega)⟩
 ·exact .inr ⟨g,0,rfl,hl,by omega,Aa _,by unfold maxLen;omega,λj hj=>by rw[AM];exact h.cell hj⟩
theorem info5b:(prog.info? 5).map (λi=>(i.zero,i.size,i.bytes))=some (some (.int .u8 0),1,1):=by kernel_rfl
theorem ag_head{w:World}{a:Option Addr}{n c:Nat}{bs:List Int}(h:Ag w a n c bs)(h1:0<n):∃g off,a=some ⟨g,off,none⟩/\n<=c/\c<=maxLen/\∀j,j<n->w.cell? ⟨g,off+j,none⟩=some (.int .u8 (bs.getD j 0)):=by
 rcases h.i with⟨h0,_⟩|⟨g,off,h2,h3,h4,h5,h6,h7⟩
 ·omega
 ·exact⟨g,off,h2,h5,h6,λj hj=>h7 j (by omega)⟩
theorem cell_alloc{w:World}{g off:Nat}{v:Value}(h:w.cell? ⟨g,off,none⟩=some v):∀o,(w.alloc o).cell? ⟨g,off,none⟩=some v:=λo=>(Ay (w:=w) (Az w _ _ (Af h))).trans h
theorem Y0{x y:Int}(hx:0<=x/\x<256)(hy:0<=y/\y<256)(h:UInt8.ofNat x.toNat=UInt8.ofNat y.toNat):x=y:=by
 have e:=Au UInt8.toNat h;rw[UInt8.toNat_ofNat',UInt8.toNat_ofNat',Nat.mod_eq_of_lt (by omega),Nat.mod_eq_of_lt (by omega)]at e;omega
theorem RC:∀{a b:List Int},(∀x∈a,0<=x/\x<256)->(∀x∈b,0<=x/\x<256)->(a.map λn=>UInt8.ofNat n.toNat)=(b.map λn=>UInt8.ofNat n.toNat)->a=b
 |[],[],_,_,_=>rfl
 |[],_::_,_,_,h=>by simp at h
 |_::_,[],_,_,h=>by simp at h
 |x::a,y::b,ha,hb,h=>by
  rw[BX,BX]at h;injection h with h1 h2;rw[Y0 (ha x (by simp)) (hb y (by simp)) h1,RC (λz hz=>ha z (AN _ hz)) (λz hz=>hb z (AN _ hz)) h2]
theorem Ut{a b:List Int}(ha:∀x∈a,0<=x/\x<256)(hb:∀x∈b,0<=x/\x<256):(strOfNums a).toList=(strOfNums b).toList↔a=b:=by
 rw[Go.Lib.strOfNums_toList,Go.Lib.strOfNums_toList];exact⟨RC ha hb,λh=>by rw[h]⟩
theorem str_beq{a b:List Int}(ha:∀x∈a,0<=x/\x<256)(hb:∀x∈b,0<=x/\x<256):((strOfNums a).toList==(strOfNums b).toList)=decide (a=b):=by
 by_cases h:a=b
 ·simp[h]
 ·have:¬(strOfNums a).toList=(strOfNums b).toList:=λe=>h ((Ut ha hb).1 e);simp[h,this]
theorem gen_w{W:World}{p q:World->Prop}(F:q W)(h:∀v,q v->p v):p W:=h W F
end Go.Proofs.YtefhepcplempkaaGreat.Ni
namespace Go.Proofs.YtefhepcplempkaaGreat.Ni
theorem SJ:∀x:Fin 256,bits BinOp.and IntKind.u8 (x.val:Int) 15=(x.val:Int)%16:=by decide+kernel
theorem Y1:∀x y:Fin 16,bits BinOp.or IntKind.u8 ((x.val:Int)*16) (y.val:Int)=16*(x.val:Int)+(y.val:Int):=by decide+kernel
theorem Yb{x:Int}(h0:0<=x)(h1:x<256):bits BinOp.and IntKind.u8 x 15=x%16:=by
 have:=SJ ⟨x.toNat,by omega⟩;rwa [show((x.toNat:Nat):Int)=x from by omega]at this
theorem Zt{x y:Int}(h0:0<=x)(h1:x<=15)(h2:0<=y)(h3:y<=15):bits BinOp.or IntKind.u8 (x*16) y=16*x+y:=by
 have:=Y1 ⟨x.toNat,by omega⟩ ⟨y.toNat,by omega⟩;rwa [show((x.toNat:Nat):Int)=x from by omega,show((y.toNat:Nat):Int)=y from by omega]at this
theorem ownB_nil(w:World)(base:Nat):OwnB w base (.slice none 0 0) []:=⟨rfl, .inl ⟨rfl,rfl⟩⟩
theorem ag_nil(w:World):Ag w none 0 0 []:=⟨.inl ⟨rfl,rfl⟩,λ_=>⟨rfl,rfl⟩,rfl,λx hx=>by cases hx⟩
theorem WK(w:World)(a:Option Addr):Ag w a 0 0 []:=⟨.inl ⟨rfl,rfl⟩,λ_=>⟨rfl,rfl⟩,rfl,λx hx=>by cases hx⟩
theorem in0_one(w:World)(x:Int):In0 (w.alloc (.cells #[.int .u8 x] 5)) (some ⟨w.heap.size,0,none⟩) 1 1 [x]:=
 .inr ⟨w.heap.size,0,rfl,rfl,by omega,Aa _,by unfold maxLen;omega,λj hj=>by
  have:j=0:=by simp at hj;omega
  subst this;rw[Ad _ _ _ _ _ _ (Aj _ _)];rfl⟩
theorem WL(w:World)(x y:Int):In0 (w.alloc (.cells #[.int .u8 x, .int .u8 y] 5)) (some ⟨w.heap.size,0,none⟩) 2 2 [x,y]:=
 .inr ⟨w.heap.size,0,rfl,rfl,by omega,Aa _,by unfold maxLen;omega,λj hj=>by
  have:j=0∨j=1:=by simp at hj;omega
  rcases this with rfl|rfl<;>(rw[Ad _ _ _ _ _ _ (Aj _ _)];rfl)⟩
theorem below_go{w0 w w':World}(h:Below w0.heap.size w0 w)(hb:Below w.heap.size w w'):Below w0.heap.size w0 w':=h.trans (hb.mono h.size)
theorem below_new(w:World)(o:Obj):Below w.heap.size w (w.alloc o):=(Ak _ _).alloc (Aa _) _
theorem _root_.Go.Proofs.YtefhepcplempkaaGreat.Ag.drewN{w:World}{a:Option Addr}{len cap:Nat}{bs:List Int}(h:Ag w a len cap bs):Ag w.drew a len cap bs:=⟨h.i.drew,h.nil,h.l,h.b⟩
end Go.Proofs.YtefhepcplempkaaGreat.Ni
namespace Go.Proofs.YtefhepcplempkaaGreat.Ni
structure Cut(w:World)(base:Nat)(a:Option Addr)(n:Nat)(bs:List Int):Prop where
 ag:Ag w a n n bs
 own:0<n->∃g off cur,a=some ⟨g,off,none⟩/\base<=g/\w.heap[g]?=some (.cells cur 5)
theorem MB(b:List Int)(k j:Nat):(b.drop k).getD j 0=b.getD (k+j) 0:=by
 rw[List.getD,List.getD,Cn]
theorem SK(n c k:Nat)(w:World)(hk:k<n)(hnc:n<=c)(hc:c<=maxLen)(hn:n<=140737488355328)(g off:Nat):
 Calls prog 54 #[.slice (some ⟨g,off,none⟩) n c, .int .i64 k] w λe w'=>e= .returned (.slice (some ⟨g,off+k,none⟩) (n-k) (n-k))/\w'=w:=by
 unfold maxLen at hc;have h1:(k:Int)<=n:=by omega
 have h2:(n:Int)<=c:=by omega
 have h3:¬n=k:=by omega
 go_enter func54,ntmps54;go_wp2_with fail;go_ret;exact⟨rfl,rfl⟩
theorem PT(a:Option Addr)(n c:Nat)(w:World)(hnc:n<=c)(hc:c<=maxLen)(hn:n<=140737488355328)(hd:a=none->n=0/\c=0):
 Calls prog 54 #[.slice a n c, .int .i64 n] w λe w'=>(∃a',e= .returned (.slice a' 0 0))/\w'=w:=by
 unfold maxLen at hc;have h2:(n:Int)<=c:=by omega
 cases a with
 |none=>
  obtain⟨rfl,rfl⟩:=hd rfl;clear hd;rw[show((0:Nat):Int)=0 from rfl];go_enter func54,ntmps54;go_wp2_with fail;go_ret;exact⟨⟨_,rfl⟩,rfl⟩
 |some ad=>
  clear hd;go_enter func54,ntmps54;go_wp2_with fail;go_ret;exact⟨⟨_,rfl⟩,rfl⟩
theorem Ga(a:Option Addr)(n c k base:Nat)(bs:List Int)(w:World)(hk:k<=n)(hnc:n<=c)(hc:c<=maxLen)(hn:n<=140737488355328)(h:Ag w a n c bs)
 (hown:0<n->∃g off cur,a=some ⟨g,off,none⟩/\base<=g/\w.heap[g]?=some (.cells cur 5)):
 Calls prog 54 #[.slice a n c, .int .i64 k] w λe w'=>(∃a',e= .returned (.slice a' (n-k) (n-k))/\Cut w base a' (n-k) (bs.drop k))/\w'=w:=by
 have hl:=h.l;by_cases hkn:k<n
 ·obtain⟨g,off,cur,rfl,hg,hh⟩:=hown (by omega);refine(SK n c k w hkn hnc hc hn g off).mono ?_;rintro e w'⟨rfl,rfl⟩;refine⟨⟨_,rfl,⟨⟨.inr ⟨g,off+k,rfl,by rw[AQ];omega,by omega,Aa _,by unfold maxLen at hc⊢;omega,λj hj=>?_⟩,(λh=>by cases h),by rw[AQ];omega,O5 h.b k⟩,λ_=>⟨g,off+k,cur,rfl,hg,hh⟩⟩⟩,rfl⟩;rcases h.i with⟨h0,_⟩|⟨gb,off',h1,h2,h3,h4,h5,h7⟩
  ·omega
  ·injection h1 with h1;injection h1 with e1 e2;subst e1 e2;rw[AQ]at hj;rw[MB,Cz];exact h7 (k+j) (by omega)
 ·have e:k=n:=by omega
  subst e;refine(PT a k c w hnc hc hn (λha=>by have:=h.nil ha;omega)).mono ?_;rintro e w'⟨⟨a',rfl⟩,rfl⟩;rw[Cc,Bq (by omega)];exact⟨⟨a',rfl,WK w' a',λh=>by omega⟩,rfl⟩
end Go.Proofs.YtefhepcplempkaaGreat.Ni
namespace Go.Proofs.YtefhepcplempkaaGreat.Ni
theorem _root_.Go.Proofs.YtefhepcplempkaaGreat.OwnB.cutable{w:World}{base:Nat}{v:Value}{bs:List Int}(h:OwnB w base v bs)(hb:isB bs):
 ∃a c,v= .slice a bs.length c/\bs.length<=c/\c<=maxLen/\Ag w a bs.length c bs/\(0<bs.length->∃g off cur,a=some ⟨g,off,none⟩/\base<=g/\w.heap[g]?=some (.cells cur 5)):=by
 obtain⟨a,c,hv,hag⟩:=OwnB.ag h hb;rcases h.2 with⟨e1,e2⟩|⟨k,cap,cur,e1,e2,e3,e4,e5,e6,e7⟩
 ·rw[hv]at e1;injection e1 with e1 e3 e4;exact⟨a,c,hv,by omega,by unfold maxLen;omega,hag,λhp=>by omega⟩
 ·rw[hv]at e1;injection e1 with e1 e8 e9;subst e9;exact⟨a,c,hv,e4,e5,hag,λ_=>⟨k,0,cur,e1,e2,e3⟩⟩
theorem of_any(a:Option Addr)(n c:Nat)(b:List Int)(w:World)(h:Ag w a n c b)(hn:2*n<=140737488355328):
 Calls prog 28 #[.slice a n c] w λe w'=>(∃a',e= .returned (.slice a' (2*n) (2*n))/\Cut w' w.heap.size a' (2*n) (nib b))/\Below w.heap.size w w':=by
 have HL:=ZQ h.l;have HC:Hid (0<n->∃g off,a=some ⟨g,off,none⟩/\n<=c/\c<=maxLen/\∀j,j<n->w.cell? ⟨g,off+j,none⟩=some (.int .u8 (b.getD j 0))):=ZQ (ag_head h);have HB:=ZQ h.b;clear h;go_enter func28,ntmps28;go_wp2_with fail
 go_loopw [3,8] (λv i w'=>∃j:Nat,j<=n/\i= .int .i64 j/\OwnB w' w.heap.size v (nib (b.take j))/\Below w.heap.size w w') (λ_ i _=>n-(intOf i).toNat)
 case atStart=>exact⟨0,by omega,rfl,ownB_nil _ _,Ak _ _⟩
 case round=>
  obtain⟨j,hj,rfl,hown,hb⟩:=hrel;have HO:=ZQ hown;have HBW:=ZQ hb;clear hown hb;by_cases hlt:j<n
  ·obtain⟨g,off,rfl,hnc,hcm,hcs⟩:=HC.out (by omega);unfold maxLen at hcm;have hcell:=(HBW.out.cell (p:=⟨g,off+j,none⟩) (Af (hcs j hlt))).trans (hcs j hlt);have hjb:j<b.length:=(by have:=HL.out;omega);have hx:=HB.out _ (getD_mem hjb);have HN:=ZQ (O6 hjb);have HNL:Hid ((nib (b.take j)).length=2*j):=ZQ (by rw[nib_len,Am];omega);generalize b.getD j 0=x at hcell hx HN;obtain⟨hx0,hx1⟩:=hx;have hji:(j:Int)<n:=(by omega);have hand:=Yb hx0 hx1;clear hcs hjb;have HO2:Hid (∀o:Obj,OwnB (wr.alloc o) w.heap.size u3 (nib (b.take j))):=ZQ λo=>OwnB.alloc HO.out o;have HSZ:=ZQ HBW.out.size;clear HO;go_wp2_with (first|(at_builtin;refine DL rfl (.tmp 12) (.tmp 17) rfl w.heap.size _ (nib (b.take j)) rfl (HO2.out _) (some ⟨wr.heap.size,0,none⟩) 2 2 [x/16,x%16] rfl (WL wr _ _) (λh=>by cases h) rfl (by rw[HNL.out];omega) (by have:=HSZ.out;simp;omega) ?_;intro v1 w1 o1 hb1;rw[<-HN.out]at o1;have HO1:=ZQ o1;have HB1:=ZQ hb1;clear o1 hb1));refine⟨⟨j+1,by omega,by simp,HO1.out,?_⟩,by simp[intOf];omega⟩;exact(HBW.out.alloc HSZ.out _).trans HB1.out
  ·have hji:¬(j:Int)<n:=(by omega);have hbt:b.take j=b:=A8 (by have:=HL.out;omega);rw[hbt]at HO;obtain⟨a',c',rfl,h1,h2,h3,h4⟩:=HO.out.cutable (Ry HB.out);have hln:(nib b).length=2*n:=(by rw[nib_len,HL.out]);rw[hln]at h1 h3 h4⊢;have hcal:=Ga a' (2*n) c' 0 w.heap.size (nib b) _ (by omega) h1 h2 (by omega) h3 h4;rw[show((0:Nat):Int)=0 from rfl,Nat.sub_zero,Cw]at hcal;have HCAL:=ZQ hcal;clear hbt h1 h2 h3 h4 hln hcal;go_wp2_with fail;refine HCAL.out.mono ?_;rintro e w1⟨⟨a1,rfl,hcut⟩,rfl⟩;have HCUT:=ZQ hcut;clear hcut;go_wp2_with fail;go_ret;exact⟨⟨a1,rfl,HCUT.out⟩,HBW.out⟩
end Go.Proofs.YtefhepcplempkaaGreat.Ni
namespace Go.Proofs.YtefhepcplempkaaGreat
variable {w : World} {base : Nat} {K : Nat → Prop}
structure Sk(K:Nat->Prop)(w:World)(a:Option Addr)(n c:Nat)(bs:List Int):Prop where
 ag:Ag w a n c bs
 k:∀x,a=some x->0<n->K x.block
section
variable {K : Nat → Prop} {w w' : World} {a : Option Addr} {n c : Nat} {bs : List Int}
theorem Sk.go(h:Sk K w a n c bs)(hb:Below w.heap.size w w'):Sk K w' a n c bs:=⟨h.ag.at hb,h.k⟩
theorem Sk.drew(h:Sk K w a n c bs):Sk K w.drew a n c bs:=h.go (Ak _ _).drew
theorem Sk.nil(K:Nat->Prop)(w:World):Sk K w none 0 0 []:=⟨⟨.inl ⟨rfl,rfl⟩,λ_=>⟨rfl,rfl⟩,rfl,λx hx=>by cases hx⟩,λx h=>by cases h⟩
theorem Sk.len(h:Sk K w a n c bs):bs.length=n:=h.ag.l
theorem Sk.from(h:Sk K w a n c bs)(f:Nat)(hf:f<=n):Sk K w (if c=f then a else a.map (·.add (f*1))) (n-f) (c-f) (bs.drop f):=by
 have hl:=h.len;refine⟨⟨?_,?_,by simp[hl],λx hx=>h.ag.b x (List.mem_of_mem_drop hx)⟩,?_⟩
 ·rcases h.ag.i with⟨h1,h2⟩|⟨gb,off,h1,h2,h3,h4,h5,h7⟩
  ·exact .inl ⟨by omega,by simp[h2]⟩
  ·by_cases hn:n-f=0
   ·exact .inl ⟨hn,List.drop_eq_nil_of_le (by omega)⟩
   ·refine .inr ⟨gb,off+f,?_,by simp[hl],by omega,by omega,by omega,λj hj=>?_⟩
    ·rw[if_neg (by omega),h1,Option.map_some,BO,Nat.mul_one]
    ·rw[List.length_drop]at hj;rw[show off+f+j=off+(f+j)from by omega,h7 (f+j) (by omega)];simp[List.getD_eq_getElem?_getD,List.getElem?_drop]
 ·intro e;have:a=none:=by
   by_cases hc:c=f
   ·rw[if_pos hc]at e;exact e
   ·rw[if_neg hc]at e;simpa using e
  have:=h.ag.nil this;omega
 ·intro x hx hn;rcases h.ag.i with⟨h1,h2⟩|⟨gb,off,h1,h2,h3,h4,h5,h7⟩
  ·omega
  ·have hk:=h.k _ h1 (by omega);by_cases hc:c=f
   ·omega
   ·rw[if_neg hc,h1,Option.map_some,BO]at hx;cases hx;exact hk
theorem Sk.upto(h:Sk K w a n c bs)(f:Nat)(hf:f<=n):Sk K w (if c=0 then a else a.map (·.add (0*1))) f c (bs.take f):=by
 have hl:=h.len;have ha:∀gb off,a=some ⟨gb,off,none⟩->(if c=0 then a else a.map (·.add (0*1)))=some ⟨gb,off,none⟩:=by
  intro gb off e;split
  ·exact e
  ·rw[e,Option.map_some,BO,Nat.mul_one,Nat.add_zero]
 refine⟨⟨?_,?_,by simp;omega,λx hx=>h.ag.b x (List.mem_of_mem_take hx)⟩,?_⟩
 ·rcases h.ag.i with⟨h1,h2⟩|⟨gb,off,h1,h2,h3,h4,h5,h7⟩
  ·exact .inl ⟨by omega,by simp[h2]⟩
  ·by_cases hn:f=0
   ·exact .inl ⟨hn,by simp[hn]⟩
   ·refine .inr ⟨gb,off,ha gb off h1,by simp;omega,by omega,by omega,h5,λj hj=>?_⟩;rw[List.length_take]at hj;rw[h7 j (by omega)];simp[List.getD_eq_getElem?_getD,List.getElem?_take_of_lt (show j<f by omega)]
 ·intro e;have:a=none:=by
   by_cases hc:c=0
   ·rw[if_pos hc]at e;exact e
   ·rw[if_neg hc]at e;simpa using e
  have:=h.ag.nil this;omega
 ·intro x hx hn;rcases h.ag.i with⟨h1,h2⟩|⟨gb,off,h1,h2,h3,h4,h5,h7⟩
  ·omega
  ·rw[ha gb off h1]at hx;cases hx;exact h.k _ h1 (by omega)
theorem Sk.cap(h:Sk K w a n c bs)(hn:0<n):n<=c:=by
 rcases h.ag.i with⟨h1,h2⟩|⟨gb,off,h1,h2,h3,h4,h5,h7⟩<;>omega
theorem Sk.run_from(h:Sk K w a n c bs)(f:Nat)(hf:f<=n)(v:World)(ρ:Operand->Value)(o:Oper)(x y:Operand)(i:Int)(ho:o.op= .slice 23 x (some y) none none)(hx:ρ x= .slice a n c)(hy:ρ y= .int .i64 i)(hi:i=f):
 (execOp ρ o).run prog v= .ok (.value (.slice (if c=f then a else a.map (·.add (f*1))) (n-f) (c-f))) v:=by
 subst hi;unfold execOp;rw[ho];simp[hx,hy,Instr.sliceAt,BE underlying23,Instr.slice,Instr.sliceBounds,Instr.sliceBound,asIntOf,hf,Result.andThen]
theorem Sk.run_upto(h:Sk K w a n c bs)(f:Nat)(hf:f<=n)(v:World)(ρ:Operand->Value)(o:Oper)(x y:Operand)(i:Int)(ho:o.op= .slice 23 x none (some y) none)(hx:ρ x= .slice a n c)(hy:ρ y= .int .i64 i)(hi:i=f):
 (execOp ρ o).run prog v= .ok (.value (.slice (if c=0 then a else a.map (·.add (0*1))) f c)) v:=by
 subst hi;unfold execOp;rw[ho];have h2:f<=c:=by
  by_cases hn:0<n
  ·have:=h.cap hn;omega
  ·omega
 simp[hx,hy,Instr.sliceAt,BE underlying23,Instr.slice,Instr.sliceBounds,Instr.sliceBound,asIntOf,h2,Result.andThen]
theorem Sk.run_str(h:Sk K w a n c bs)(ρ:Operand->Value)(o:Oper)(x:Operand)(ho:o.op= .convert 23 9 x)(hx:ρ x= .slice a n c):(execOp ρ o).run prog w= .ok (.value (.string (strOfNums bs))) w:=by
 unfold execOp;simp only[ho,hx,B9,FZ h.ag.i,Ba,BA]
end
theorem KU{xs ys:List Int}(hx:∀x∈xs,0<=x/\x<256)(hy:∀x∈ys,0<=x/\x<256):((strOfNums xs).toList==(strOfNums ys).toList)=decide (xs=ys):=by
 exact Ni.str_beq hx hy
theorem GN{v:Value}{bs:List Int}(hown:OwnB w base v bs){a:Option Addr}{m c:Nat}{news:List Int}(h:Ag w a m c news)(hb:bs.length+m<=140737488355328)(hbase:base<=w.heap.size):
 ∃v' w',(∀ty,(Builtin.append_ #[23,23] ty #[v, .slice a m c]).run prog w= .ok v' w')/\OwnB w' base v' (bs++news)/\Below base w w':=by
 obtain⟨i,hi,hz,hsz,hby⟩:=info5;cases a with
 |none=>
  obtain⟨rfl,rfl⟩:=h.nil rfl;have hn0:news=[]:=A3 h.l;subst hn0;exact⟨v,w,λty=>Ez w base 23 ty 5 i 1 underlying23 hi v _ _ hown,by rw[A4];exact hown,Ak _ _⟩
 |some ad=>
  have hc:∀j u,(news.map (Value.int .u8))[j]?=some u->w.cell? (ad.add j)=some u:=by
   rcases h.i.inB h.nil with⟨h,_⟩|⟨ad',h1,_,h3⟩
   ·cases h
   ·cases h1;exact h3
  obtain⟨v',w',h1,h2,h3,_⟩:=run_append_own w base 23 0 5 i (.int .u8 0) 1 1 underlying23 hi hz hsz hby rfl (by decide) v bs.length (bs.map (Value.int .u8)) hown ad m c (news.map (Value.int .u8)) (by simpa using h.l) hc (B8_one2 _) (by unfold maxLen;omega) (by omega) hbase;refine⟨v',w',λty=>h1,?_,(Ak _ _).grown h3 hbase hown.lt⟩;unfold OwnB;rw[Ab,h.l,BB];exact h2
theorem IL{w w':World}{v u r:Value}{ρ:Operand->Value}{o:Oper}(hr:∀ty,(Builtin.append_ #[23,23] ty #[v,u]).run prog w= .ok r w')(x y:Operand)(ho:o.op= .call {callee:= .builtin .append,args:=#[x,y],argTypes:=#[23,23]})(hx:ρ x=v)(hy:ρ y=u):(execOp ρ o).run prog w= .ok (.value r) w':=by
 unfold execOp;simp only[ho,resolve,invoke,builtin,B9,BA,Ba,CU,BX,DB,hx,hy,hr]
theorem OwnB.sk{v:Value}{bs:List Int}(h:OwnB w base v bs)(hb:∀x∈bs,0<=x/\x<256)(hK:∀b,base<=b->K b):∃a c,v= .slice a bs.length c/\Sk K w a bs.length c bs:=by
 obtain⟨a,c,hv,hag⟩:=h.ag hb;refine⟨a,c,hv,hag,λx hx hn=>hK _ ?_⟩;exact h.lt x.block (by rw[hv,hx];rfl)
def brc(vs:Nat->Value)(s:Value):Array Value:=#[vs 0,vs 1,vs 2,vs 3,vs 4,vs 5,vs 6,vs 7,vs 8,vs 9,vs 10,vs 11,vs 12,vs 13,vs 14,vs 15,s]
def updv(vs:Nat->Value)(i:Nat)(v:Value):Nat->Value:=λj=>if j=i then v else vs j
theorem N9(vs:Nat->Value)(s:Value):∀i,i<16->(brc vs s)[i]?=some (vs i)
 |0,_|1,_|2,_|3,_|4,_|5,_|6,_|7,_|8,_|9,_|10,_|11,_|12,_|13,_|14,_|15,_=>rfl
 |n+16,h=>by omega
theorem RD(vs:Nat->Value)(s v:Value):∀i,i<16->(brc vs s).setIfInBounds i v=brc (updv vs i v) s
 |0,_|1,_|2,_|3,_|4,_|5,_|6,_|7,_|8,_|9,_|10,_|11,_|12,_|13,_|14,_|15,_=>rfl
 |n+16,h=>by omega
open Tr in
def TA(K:Nat->Prop)(w:World):Tr->Value->Prop
 |no,v=>v= .nilIface
 |leaf p x,v=>∃a n c a' n' c',v= .iface 131 (.agg #[.slice a n c, .slice a' n' c'])/\Sk K w a n c p/\Sk K w a' n' c' x/\n'<=256
 |ext p t,v=>∃a n c u,v= .iface 226 (.agg #[.slice a n c,u])/\Sk K w a n c p/\TA K w t u
 |br k x,v=>∃vs a n c,v= .iface 221 (.agg (brc vs (.slice a n c)))/\(∀i,i<16->TA K w (k i) (vs i))/\Sk K w a n c x/\n<=256
theorem TA.go{w':World}(hb:Below w.heap.size w w'):∀{t:Tr}{v:Value},TA K w t v->TA K w' t v:=by
 intro t
 induction t with
 |no=>intro v h;exact h
 |leaf p x=>rintro v⟨a,n,c,a',n',c',h1,h2,h3,h4⟩;exact⟨a,n,c,a',n',c',h1,h2.go hb,h3.go hb,h4⟩
 |ext p t ih=>rintro v⟨a,n,c,u,h1,h2,h3⟩;exact⟨a,n,c,u,h1,h2.go hb,ih h3⟩
 |br k x ih=>rintro v⟨vs,a,n,c,h1,h2,h3,h4⟩;exact⟨vs,a,n,c,h1,λi hi=>ih i (h2 i hi),h3.go hb,h4⟩
theorem TA.drew{t:Tr}{v:Value}(h:TA K w t v):TA K w.drew t v:=h.go (Ak _ _).drew
theorem TA.one{t:Tr}{v:Value}(h:TA K w t v):v.oneCell'=true:=by
 cases t with
 |no=>rw[show v= .nilIface from h];rfl
 |leaf p x=>obtain⟨a,n,c,a',n',c',rfl,_⟩:=h;rfl
 |ext p t=>obtain⟨a,n,c,u,rfl,_⟩:=h;rfl
 |br k x=>obtain⟨vs,a,n,c,rfl,_⟩:=h;rfl
def Iv(name:String)(v:Value)(f:FuncId)(x:Value):Prop:=∀(w:World)(ρ:Operand->Value)(o:Oper)(r:Operand)(xs:Array Operand)(tys:Array TypeId)(vs:Array Value),o.op= .call {callee:= .invoke r name,args:=xs,argTypes:=tys}->ρ r=v->xs.map ρ=vs->(execOp ρ o).run prog w= .ok (.enter f (#[x]++vs)) w
theorem Hh{name:String}{T:TypeId}{f:FuncId}{x:Value}(h:∀(w:World)(vs:Array Value),(callMethod (.iface T x) name vs).run prog w= .ok (.enter f (#[x]++vs)) w):Iv name (.iface T x) f x:=by
 intro w ρ o r xs tys vs ho hr ha;unfold execOp;simp[ho,resolve,invoke,hr,ha];rw[show(#[Value.iface T x]++vs)[0]?=some (.iface T x)from by rw[Array.getElem?_append_left (by simp)];rfl];exact h w vs
def meth(a b c:FuncId)(T:TypeId):FuncId:=if T=131 then a else if T=226 then b else c
theorem SL(x:Value):Iv "pergola/trie.with" (.iface 131 x) 181 x:=Hh λw vs=>by kernel_rfl
theorem SM(x:Value):Iv "pergola/trie.with" (.iface 226 x) 199 x:=Hh λw vs=>by kernel_rfl
theorem MD(x:Value):Iv "pergola/trie.with" (.iface 221 x) 184 x:=Hh λw vs=>by kernel_rfl
theorem PU(x:Value):Iv "pergola/trie.under" (.iface 131 x) 180 x:=Hh λw vs=>by kernel_rfl
theorem PW(x:Value):Iv "pergola/trie.under" (.iface 226 x) 198 x:=Hh λw vs=>by kernel_rfl
theorem PX(x:Value):Iv "pergola/trie.under" (.iface 221 x) 192 x:=Hh λw vs=>by kernel_rfl
def MC(name:String)(v:Value)(vs:Array Value)(w:World)(R:Value->World->Prop):Prop:=∃T x f,v= .iface T x/\Iv name v f x/\Calls prog f (#[x]++vs) w λe w'=>∃u,e= .returned u/\R u w'
end Go.Proofs.YtefhepcplempkaaGreat
namespace Go.Proofs.YtefhepcplempkaaGreat
variable {g n c : Nat} {w w' w0 : World} {K : Nat → Prop} {a : Option Addr} {p : List Int}
theorem Sk.cutFrom{K:Nat->Prop}{w:World}{a:Option Addr}{n c:Nat}{bs:List Int}(h:Sk K w a n c bs)(f:Nat)(hf:f<=n):
 ∃a' n' c',(∀(v:World)(ρ:Operand->Value)(o:Oper)(x y:Operand)(i:Int),o.op= .slice 23 x (some y) none none->ρ x= .slice a n c->ρ y= .int .i64 i->i=f->(execOp ρ o).run prog v= .ok (.value (.slice a' n' c')) v)/\Sk K w a' n' c' (bs.drop f):=
 ⟨_,_,_,h.run_from f hf,h.from f hf⟩
theorem Sk.cutTo{K:Nat->Prop}{w:World}{a:Option Addr}{n c:Nat}{bs:List Int}(h:Sk K w a n c bs)(f:Nat)(hf:f<=n):
 ∃a' n' c',(∀(v:World)(ρ:Operand->Value)(o:Oper)(x y:Operand)(i:Int),o.op= .slice 23 x none (some y) none->ρ x= .slice a n c->ρ y= .int .i64 i->i=f->(execOp ρ o).run prog v= .ok (.value (.slice a' n' c')) v)/\Sk K w a' n' c' (bs.take f):=
 ⟨_,_,_,h.run_upto f hf,h.upto f hf⟩
def Rw(g:Nat)(w:World)(cells:Array Value)(T:TypeId):Prop:=w.heap[g]?=some (.cells cells T (0,0))
theorem Rw.go{cells:Array Value}{T:TypeId}(h:Rw g w cells T)(hb:Below w.heap.size w w'):Rw g w' cells T:=Below.row hb h
theorem Rw.drew{cells:Array Value}{T:TypeId}(h:Rw g w cells T):Rw g w.drew cells T:=h
def Bl(w0 w:World):Prop:=Below w0.heap.size w0 w
theorem Bl.refl(w:World):Bl w w:=Ak _ _
theorem Bl.go(h:Bl w0 w)(hb:Below w.heap.size w w'):Bl w0 w':=h.trans (hb.mono h.size)
theorem Bl.drew(h:Bl w0 w):Bl w0 w.drew:=h.go (Ak _ _).drew
theorem Bl.size(h:Bl w0 w):w0.heap.size<=w.heap.size:=EA h
section
variable {r : Option Nat} {m : Nat} {P : Program} {ds : List Deferred} {n : Nat} {Q : Exit → Act → World → Prop} {env : Env} {w : World} {ops : Array Oper} {l : List Oper} {o : Oper} {S : World → Prop} {fuel : Nat} {listed : Array Bool} {rs : List Nat}
theorem Fz(d:Nat)(cells:Array Value)(T:TypeId)(k:Nat)(hc:∀fb,chk n ops env fb o d=true)(hr:∀fb,(execOp (ev env fb) o).run P w= .ok (.value (.slice (some ⟨w.heap.size,0,none⟩) k k)) (w.alloc (.cells cells T)))
 (h:∀w' g,New w w' g cells T->RW r m P ds n Q ops l ((d, .slice (some ⟨g,0,none⟩) k k)::env) w'):RW r m P ds n Q ops (o::l) env w:=Ln d _ hc hr (h _ _ ⟨rfl,rfl⟩)
theorem NA(i d:Nat)(cells:Array Value)(T:TypeId)(k:Nat)(ho:ops[i]?=some o)(hc:∀fb,chk n ops env fb o d=true)(hr:∀fb,(execOp (ev env fb) o).run P w= .ok (.value (.slice (some ⟨w.heap.size,0,none⟩) k k)) (w.alloc (.cells cells T)))(hS:∀w' g,New w w' g cells T->S w')
 (h:∀w' g,New w w' g cells T->DW P ds n Q ops S fuel (listed.setIfInBounds i true) ((d, .slice (some ⟨g,0,none⟩) k k)::env) w') (hs:AR P ds n Q ops S fuel listed env w rs):AR P ds n Q ops S fuel listed env w (i::rs):=
 PO i d _ ho hc hr (hS _ _ ⟨rfl,rfl⟩) (h _ _ ⟨rfl,rfl⟩) hs
end
theorem PY{x:Int}(hx:0<=x/\x<256)(h:New w w' g #[.int .u8 x] 5)(hK:∀b,w.heap.size<=b->K b):Sk K w' (some ⟨g,0,none⟩) 1 1 [x]:=by
 refine⟨⟨.inr ⟨g,0,rfl,rfl,by omega,by omega,by unfold maxLen;omega,λj hj=>?_⟩,(λe=>by cases e),rfl,λy hy=>by rw[DK.1 hy];exact hx⟩,λy hy _=>?_⟩
 ·have:j=0:=by simpa using hj
  subst this;rw[Ad _ _ _ _ _ _ h.row];rfl
 ·cases hy;exact hK _ (by rw[h.hg];exact Aa _)
theorem ME{K':Nat->Prop}{a':Option Addr}{n' c':Nat}{q:List Int}(h1:Sk K w a n c p)(h2:Sk K' w a' n' c' q):
 Calls prog 48 #[.slice a n c, .slice a' n' c'] w λe w'=>∃u,e= .returned u/\u= .bool (decide (p=q))/\Bl w w':=by
 have hB:=Bl.refl w;refine CV func48 rfl 10 rfl ?_;show CW _ _ _ _ _ _ _ [(0, .slice a n c),(1, .slice a' n' c')] _;refine A5<|Ao<|rp 4 (.bool false)<|AK<|Av<|A5<|Ao<|rp 5 (.slice a n c)<|rv 6 (.string (strOfNums p)) (λ_=>h1.run_str _ _ _ rfl (by kernel_rfl))<|rp 7 (.slice a' n' c')<|rv 8 (.string (strOfNums q)) (λ_=>h2.run_str _ _ _ rfl (by kernel_rfl))<|rv 9 (.bool (decide (p=q))) (λ_=>PP 9 _ _ _ _ _ rfl (by kernel_rfl) (by kernel_rfl) (KU h1.ag.b h2.ag.b)) ?_;refine rp 4 (.bool (decide (p=q)))<|AK<|Av<|D7 ?_;exact BU (.bool (decide (p=q))) (λ_=>by kernel_rfl) ⟨_,rfl,rfl,hB⟩
theorem PZ(h1:Sk K w none 0 0 p):
 Calls prog 52 #[.slice none 0 0] w λe w'=>∃u,e= .returned u/\∃a2 n2 c2,u= .slice a2 n2 c2/\Sk (λb=>w.heap.size<=b) w' a2 n2 c2 p/\Bl w w':=by
 have hB:=Bl.refl w;refine CV func52 rfl 8 rfl ?_;show CW _ _ _ _ _ _ _ [(0, .slice none 0 0)] _;refine A5<|Ao<|rp 2 (.slice none 0 0)<|AK<|Av<|A5<|A5<|Ao<|rp 3 (.slice none 0 0)<|rp 4 (.bool true)<|AK<|Av ?_;refine CY (λ_=>by kernel_rfl)<|A5<|Ao<|rp 2 (.slice none 0 0)<|AK<|Av<|D7<|CT ?_;exact BU (.slice none 0 0) (λ_=>by kernel_rfl) ⟨_,rfl,none,0,0,rfl,by have e:p=[]:=A3 h1.len;subst e;exact Sk.nil _ _,hB⟩
theorem Qa{ad:Addr}(h1:Sk K w (some ad) n c p)(hn:n<=1000000):
 Calls prog 52 #[.slice (some ad) n c] w λe w'=>∃u,e= .returned u/\∃a2 n2 c2,u= .slice a2 n2 c2/\Sk (λb=>w.heap.size<=b) w' a2 n2 c2 p/\Bl w w':=by
 have hB:=Bl.refl w;refine CV func52 rfl 8 rfl ?_;show CW _ _ _ _ _ _ _ [(0, .slice (some ad) n c)] _;refine A5<|Ao<|rp 2 (.slice none 0 0)<|AK<|Av<|A5<|A5<|Ao<|rp 3 (.slice (some ad) n c)<|rp 4 (.bool false)<|AK<|Av ?_;refine Cb (λ_=>by kernel_rfl)<|CN<|Av<|A5<|Ao<|Fz 5 #[] 5 0 (λ_=>by kernel_rfl) (λ_=>by kernel_rfl) ?_;intro w1 g2 hn3;have hzhn3:=hB.size;replace h1:=h1.go hn3.below;replace hB:=hB.go hn3.below;have hO:OwnB w1 g2 (.slice (some ⟨g2,0,none⟩) 0 0) []:=by rw[hn3.hw,hn3.hg];exact OwnB.new _
 have hsz:=hn3.size;have hgs:=hn3.hg;refine rp 6 (.slice (some ad) n c) ?_;obtain⟨v1,w9,hr9,ho9,hb9⟩:=GN hO h1.ag (by simp;omega) (by omega);refine Ln 7 v1 (λ_=>by kernel_rfl) (λ_=>IL hr9 _ _ rfl (by kernel_rfl) (by kernel_rfl)) ?_;obtain⟨a9,c9,rfl,hs9⟩:=ho9.sk (K:=λb=>w.heap.size<=b) (by simpa using h1.ag.b) (λb hb=>by omega);refine rp 2 (.slice a9 ([]++p).length c9)<|AK<|Av<|D7 ?_;exact BU (.slice a9 ([]++p).length c9) (λ_=>by kernel_rfl) ⟨_,rfl,_,_,_,rfl,hs9,hB.trans (hb9.mono (by omega))⟩
theorem G1(h1:Sk K w a n c p)(hn:n<=1000000):
 Calls prog 52 #[.slice a n c] w λe w'=>∃u,e= .returned u/\∃a2 n2 c2,u= .slice a2 n2 c2/\Sk (λb=>w.heap.size<=b) w' a2 n2 c2 p/\Bl w w':=by
 cases a with
 |none=>obtain⟨rfl,rfl⟩:=h1.ag.nil rfl;exact PZ h1
 |some ad=>exact Qa h1 hn
section
variable {m : Nat} {P : Program} {ds : List Deferred} {n : Nat} {Q : Exit → Act → World → Prop} {env : Env} {w : World} {ops : Array Oper} {S : World → Prop}
theorem Qb{l:Nat}{o:Oper}{a:Act}{w:World}{K:Act->World->Prop}(hnd:∀c,o.op≠ .defer c)(h:o.wp P a w K Q):o.wpIn (Fence.wide.inRound l) m P a w K Q:=by
 refine⟨λf _=>trivial,?_⟩;rw[CK _ _ _ hnd];unfold Oper.wp at h;generalize (execOp a.eval o).run P w=r at h⊢;cases r with
 |ok x w'=>
  cases x with
  |value v=>exact h
  |skip=>exact h
  |defer d=>exact h
  |enter f args=>exact⟨λe=>absurd e Cv,Fk.2 h⟩
  |row row args=>exact⟨λe=>absurd e Cv,λc cs _=>by obtain⟨v,w'',r,s⟩:=h c cs;exact⟨v,w'',r,stepsIn_wide.2 s⟩⟩
  |_=>exact h.elim
 |halt x w'=>
  cases x with
  |panic v=>exact h
  |_=>exact h.elim
theorem SN{l:Nat}(hLO:¬LetsOut Q)(hnd:ops.all (λo=>match o.op with| .defer _=>false|_=>true)=true){i:Nat}{K:Act->World->Prop}{a:Act}{w:World}(h:wpOp P ops Q i K a w):wpOpIn (Fence.wide.inRound l) m P ops Q i K a w:=by
 unfold wpOp at h;unfold wpOpIn;cases ho:ops[i]? with
 |none=>simpa[ho]using h
 |some o=>
  simp only[ho]at h⊢;have hd:∀c,o.op≠ .defer c:=λc e=>by
   have:=Array.all_eq_true.1 hnd i (BV.1 ho).1;rw[(BV.1 ho).2,e]at this;cases this
  split
  ·rename_i hw;simp only[hw,if_true]at h;rcases h with h|h
   ·exact Qb hd h
   ·exact absurd h.2 hLO
  ·rename_i hw;simp only[hw]at h;exact⟨λf _=>trivial,h⟩
theorem Ls{l:Nat}(hLO:¬LetsOut Q)(hnd:ops.all (λo=>match o.op with| .defer _=>false|_=>true)=true):∀(fuel:Nat)(listed:Array Bool)(a:Act)(w:World),wpAnyH P .any ops Q S fuel listed a w->wpAnyIn (Fence.wide.inRound l) m P .any ops Q fuel listed a w
 |0,_,_,_,h=>h
 |fuel+1,_,_,_,h=>⟨h.1,λi hi=>wpOpIn_mono (λa' w' h'=>Ls hLO hnd fuel _ a' w' h'.2) (SN hLO hnd (h.2 i hi))⟩
theorem Uu{id l:Nat}(S:World->Prop)(hm:P.follows .mixedOrders=true)(hnd:ops.all (λo=>match o.op with| .defer _=>false|_=>true)=true)(hLO:¬LetsOut Q)(hS:S w.drew)(h:DW P ds n Q ops S ops.size (Array.replicate ops.size false) env w.drew):CW (some l) m P ds n Q (.region id ops true) env w:=λa ha=>
 wpIn_region_any (F:=Fence.wide.inRound l) hm (Ls hLO hnd _ _ _ _ (h a ha))
end
abbrev Cf:=Code⊕Exit⊕(Array Oper×List Oper)
abbrev Kf:=Code⊕Nat⊕(Act->World->Prop)
structure Sta where
 c:Cf
 k:List Kf
 e:Env
structure Fm(ds:List Deferred)(n:Nat)(env:Env)(fb:Nat->Value)(a:Act):Prop where
 df:a.defers=ds
 sz:a.tmps.size=n
 get:∀t,a.tmps.getD t undef=lkF env fb t
section
variable {ds : List Deferred} {n : Nat} {env : Env} {fb : Nat → Value} {a : Act}
theorem Frm.fm(h:Frm ds n env a):Fm ds n env (λt=>a.tmps.getD t undef) a:=⟨h.df,h.sz,h.get⟩
theorem Fm.ev(h:Fm ds n env fb a):a.eval=Go.Proofs.YtefhepcplempkaaGreat.ev env fb:=by
 funext x;cases x with
 |tmp t=>exact h.get t
 |const v=>rfl
 |global g=>rfl
 |func f=>rfl
theorem Fm.put(h:Fm ds n env fb a){d:Nat}(hd:d<n)(v:Value):Fm ds n ((d,v)::env) fb (a.put (some d) v):=by
 refine⟨h.df,by simp[Act.put,h.sz],λt=>?_⟩;have hs:d<a.tmps.size:=by rw[h.sz];exact hd
 simp only[Act.put,C3,D5,lkF];by_cases hu:d=t
 ·subst hu;simp[hs]
 ·have hb:Nat.beq d t=false:=by
   cases hq:Nat.beq d t with
   |true=>exact absurd (Df hq) hu
   |false=>rfl
  rw[hb,Ae hu];have:=h.get t;simp only[C3]at this;simpa using this
theorem Fm.want(h:Fm ds n env fb a)(ops:Array Oper)(o:Oper):Region.wanted o (Go.yielded ops a.tmps)=Region.wanted o (yF ops env fb):=by
 have:Go.yielded ops a.tmps=yF ops env fb:=by
  funext j;unfold Go.yielded yF;cases(ops[j]?).bind (·.dst)with
  |none=>rfl
  |some d=>
   have hg:=h.get d;simp only[Option.bind_some];rw[<-hg,C3];cases a.tmps[d]? with
   |none=>rfl
   |some v=>cases v<;>rfl
 rw[this]
end
def Qs(r:Option Nat)(m:Nat)(P:Program)(Q:Exit->Act->World->Prop):List Kf->Exit->Act->World->Prop
 |[]=>Q
 | .inl c::k=>Exit.then (c.wpIn (fz r) m P (Qs r m P Q k)) (Qs r m P Q k)
 | .inr (.inl id)::k=>Exit.inBlock id (Qs r m P Q k)
 | .inr (.inr I)::k=>Exit.then I (Qs r m P Q k)
def AtR(r:Option Nat)(m:Nat)(P:Program)(Q:Exit->Act->World->Prop)(c:Cf)(k:List Kf)(a:Act)(w:World):Prop:=
 match c with
 | .inl c=>c.wpIn (fz r) m P (Qs r m P Q k) a w
 | .inr (.inl x)=>Qs r m P Q k x a w
 | .inr (.inr x)=>wpListIn (fz r) m P x.1 (Qs r m P Q k) x.2 a w
structure HD(r:Option Nat)(m:Nat)(P:Program)(ds:List Deferred)(n:Nat)(Q:Exit->Act->World->Prop)(s:Sta)(w:World):Prop where
 g:∀fb a,Fm ds n s.e fb a->AtR r m P Q s.c s.k a w
def nx(P:Program)(n:Nat)(fb:Nat->Value)(w:World)(s:Sta):Option (Sta×World):=
 match s.c with
 | .inl c=>match c with
  | .seq x y=>some (⟨.inl x, .inl y::s.k,s.e⟩,w)
  | .skip=>some (⟨.inr (.inl .normal),s.k,s.e⟩,w)
  | .label _=>some (⟨.inr (.inl .normal),s.k,s.e⟩,w)
  | .block id x=>some (⟨.inl x, .inr (.inl id)::s.k,s.e⟩,w)
  | .exit id=>some (⟨.inr (.inl (.exit id)),s.k,s.e⟩,w)
  | .ret=>some (⟨.inr (.inl .ret),s.k,s.e⟩,w)
  | .cond x y z=>match ev s.e fb x with
   | .bool b=>some (⟨.inl (bif b then y else z),s.k,s.e⟩,w)
   |_=>none
  | .region _ ops d=>bif d then none else some (⟨.inr (.inr (ops,ops.toList)),s.k,s.e⟩,w)
  |_=>none
 | .inr (.inl x)=>match x with
  | .normal=>match s.k with
   | .inl c::k=>some (⟨.inl c,k,s.e⟩,w)
   | .inr (.inl _)::k=>some (⟨.inr (.inl .normal),k,s.e⟩,w)
   |_=>none
  | .exit id=>match s.k with
   | .inl _::k=>some (⟨.inr (.inl (.exit id)),k,s.e⟩,w)
   | .inr (.inl j)::k=>some (⟨.inr (.inl (bif Nat.beq id j then .normal else .exit id)),k,s.e⟩,w)
   | .inr (.inr _)::k=>some (⟨.inr (.inl (.exit id)),k,s.e⟩,w)
   |[]=>none
  | .ret=>match s.k with
   |_::k=>some (⟨.inr (.inl .ret),k,s.e⟩,w)
   |[]=>none
  |_=>none
 | .inr (.inr (ops,l))=>match l with
  |[]=>some (⟨.inr (.inl .normal),s.k,s.e⟩,w)
  |o::l=>match o.dst with
   |some d=>bif Nat.blt d n&&noDefer o then
     bif Region.wanted o (yF ops s.e fb)then match(execOp (ev s.e fb) o).run P w with
      | .ok (.value v) w'=>some (⟨.inr (.inr (ops,l)),s.k,(d,v)::s.e⟩,w')
      |_=>none
     else some (⟨.inr (.inr (ops,l)),s.k,(d,undef)::s.e⟩,w)
    else none
   |none=>none
def it(P:Program)(n:Nat)(fb:Nat->Value):Nat->World->Sta->Option (Sta×World)
 |0,w,s=>some (s,w)
 |k+1,w,s=>match nx P n fb w s with
  |some x=>it P n fb k x.2 x.1
  |none=>none
def au(P:Program)(n k:Nat)(w:World)(s:Sta):Sta:=match it P n (λ_=>undef) k w s with
 |some x=>x.1
 |none=>s
def cu(n:Nat)(fb:Nat->Value)(s:Sta):Option (Oper×Option Nat):=
 match s.c with
 | .inr (.inr (ops,l))=>match l with
  |o::_=>bif noDefer o&&Region.wanted o (yF ops s.e fb)then match o.dst with
   |some d=>bif Nat.blt d n then some (o,some d)else none
   |none=>some (o,none)
   else none
  |[]=>none
 |_=>none
def pv(s:Sta)(v:Value):Sta:=
 match s.c with
 | .inr (.inr (ops,l))=>match l with
  |o::l=>match o.dst with
   |some d=>⟨.inr (.inr (ops,l)),s.k,(d,v)::s.e⟩
   |none=>⟨.inr (.inr (ops,l)),s.k,s.e⟩
  |[]=>s
 |_=>s
section
variable {r : Option Nat} {m : Nat} {P : Program} {ds : List Deferred} {n : Nat} {Q : Exit → Act → World → Prop} {w w' : World} {s s' : Sta} {fb : Nat → Value}
theorem Zu(h:nx P n fb w s=some (s',w'))(hh:∀a,Fm ds n s'.e fb a->AtR r m P Q s'.c s'.k a w'):∀a,Fm ds n s.e fb a->AtR r m P Q s.c s.k a w:=by
 intro a ha;obtain⟨c,k,e⟩:=s;unfold nx at h;rcases c with c|x|⟨ops,l⟩
 ·cases c with
  |seq x y=>cases h;exact wpIn_seq (hh a ha)
  |skip=>cases h;exact wpIn_skip (hh a ha)
  |label l=>cases h;exact wpIn_label (hh a ha)
  |block id x=>cases h;exact wpIn_block (hh a ha)
  |exit id=>cases h;exact wpIn_exit (hh a ha)
  |ret=>cases h;exact wpIn_ret (hh a ha)
  |cond x y z=>
   simp only at h;split at h
   ·rename_i b hb;cases h;cases b with
    |true=>exact wpIn_cond_true (by rw[ha.ev];exact hb) (hh a ha)
    |false=>exact wpIn_cond_false (by rw[ha.ev];exact hb) (hh a ha)
   ·cases h
  |region id ops d=>
   cases d with
   |true=>cases h
   |false=>cases h;exact wpIn_region_list (hh a ha)
  |loop=>cases h
  |rangeFunc=>cases h
  |scope=>cases h
  |goto=>cases h
  |refuse=>cases h
 ·cases x with
  |normal=>
   rcases k with _|⟨c|id|I,k⟩
   ·cases h
   ·cases h;exact hh a ha
   ·cases h;exact hh a ha
   ·cases h
  |exit id=>
   rcases k with _|⟨c|j|I,k⟩
   ·cases h
   ·cases h;exact hh a ha
   ·cases h;have:=hh a ha;show if id=j then Qs r m P Q k .normal a w else Qs r m P Q k (.exit id) a w
    simp only[AtR]at this;cases hq:Nat.beq id j with
    |true=>rw[hq]at this;rw[Ai (Df hq)];exact this
    |false=>rw[hq]at this;rw[Ae (Nat.ne_of_beq_eq_false hq)];exact this
   ·cases h;exact hh a ha
  |ret=>
   rcases k with _|⟨c|id|I,k⟩
   ·cases h
   ·cases h;exact hh a ha
   ·cases h;exact hh a ha
   ·cases h;exact hh a ha
  |goto l=>cases h
  |panic ch=>cases h
  |outgrown=>cases h
 ·cases l with
  |nil=>cases h;exact hh a ha
  |cons o l=>
   simp only at h;split at h
   ·rename_i d hd;cases hc:(Nat.blt d n&&noDefer o)with
    |false=>rw[hc]at h;cases h
    |true=>
     rw[hc]at h;simp only[BN]at hc;have hdn:d<n:=(by simpa[EW]using hc.1);have hnd:=EE hc.2;simp only[cond_true]at h;refine DY λK hK=>?_;rw[ha.want];cases hw:Region.wanted o (yF ops e fb)with
     |true=>
      rw[hw]at h;simp only[cond_true]at h;rw[Ai rfl];refine⟨λf _=>trivial,?_⟩;split at h
      ·rename_i v w1 hr;cases h;rw[CK _ _ _ hnd,ha.ev,hr,Oper.uponIn_value,hd];exact hK _ _ (hh _ (ha.put hdn v))
      ·cases h
     |false=>
      rw[hw]at h;simp only[cond_false]at h;cases h;rw[Ae Cv,hd];exact⟨λf _=>trivial,hK _ _ (hh _ (ha.put hdn _))⟩
   ·cases h
theorem G2:∀(k:Nat){w:World}{s:Sta},it P n fb k w s=some (s',w')->(∀a,Fm ds n s'.e fb a->AtR r m P Q s'.c s'.k a w')->∀a,Fm ds n s.e fb a->AtR r m P Q s.c s.k a w:=by
 intro k
 induction k with
 |zero=>intro w s h hh;cases h;exact hh
 |succ k ih=>
  intro w s h hh;unfold it at h;split at h
  ·rename_i x hx;obtain⟨s1,w1⟩:=x;exact Zu hx (ih h hh)
  ·cases h
theorem KV{o:Oper}{d:Option Nat}(h:cu n fb s=some (o,d)):∃ops l,s.c= .inr (.inr (ops,o::l))/\o.dst=d/\(∀x,d=some x->x<n)/\Region.wanted o (yF ops s.e fb)=true/\∀c,o.op≠ .defer c:=by
 unfold cu at h;split at h
 ·rename_i ops l hc;split at h
  ·rename_i o1 l1;cases hq:(noDefer o1&&Region.wanted o1 (yF ops s.e fb))with
   |false=>rw[hq]at h;cases h
   |true=>
    rw[hq]at h;simp only[cond_true]at h;simp only[BN]at hq;split at h
    ·rename_i x hx;cases hb:Nat.blt x n with
     |false=>rw[hb]at h;cases h
     |true=>
      rw[hb]at h;cases h;exact⟨ops,l1,hc,hx,λy hy=>by cases hy;simpa[EW]using hb,hq.2,EE hq.1⟩
    ·rename_i hx;cases h;exact⟨ops,l1,hc,hx,(λy hy=>nomatch hy),hq.2,EE hq.1⟩
  ·cases h
 ·cases h
def opR(P:Program)(n:Nat)(fb:Nat->Value)(s:Sta)(w:World):Option (Result Next):=(cu n fb s).map λx=>(execOp (ev s.e fb) x.1).run P w
theorem Zv{ops:Array Oper}{o:Oper}{l:List Oper}(h:s.c= .inr (.inr (ops,o::l)))(v:Value):(pv s v).c= .inr (.inr (ops,l))/\(pv s v).k=s.k/\(pv s v).e=match o.dst with|some d=>(d,v)::s.e|none=>s.e:=by
 obtain⟨c,k,e⟩:=s;cases h;unfold pv;simp only;cases o.dst<;>exact⟨rfl,rfl,rfl⟩
theorem RF{v:Value}(hh:HD r m P ds n Q (pv s v) w'){ops:Array Oper}{o:Oper}{l:List Oper}(hc:s.c= .inr (.inr (ops,o::l))){d:Option Nat}(hd:o.dst=d)(hdn:∀x,d=some x->x<n){a:Act}(ha:Fm ds n s.e fb a):
 wpListIn (fz r) m P ops (Qs r m P Q s.k) l (a.put o.dst v) w':=by
 obtain⟨e1,e2,e3⟩:=Zv hc v
 have:=hh.g fb (a.put o.dst v) (by
  rw[e3];cases hx:o.dst with
  |none=>exact ha
  |some x=>exact ha.put (hdn x (hd▸hx)) v)
 rw[e1,e2]at this;exact this
theorem WC{v:Value}(hk:∀fb,∃o d,cu n fb s=some (o,d)/\((execOp (ev s.e fb) o).run P w= .ok (.value v) w'∨(o.dst=none/\(execOp (ev s.e fb) o).run P w= .ok .skip w')))(hh:HD r m P ds n Q (pv s v) w'):∀fb a,Fm ds n s.e fb a->AtR r m P Q s.c s.k a w:=by
 intro fb a ha;obtain⟨o,d,hcu,hr⟩:=hk fb;obtain⟨ops,l,hc,hd,hdn,hw,hnd⟩:=KV hcu;rw[hc];refine DY λK hK=>?_;rw[ha.want,hw,Ai rfl];refine⟨λf _=>trivial,?_⟩;rcases hr with hr|⟨h0,hr⟩
 ·rw[CK _ _ _ hnd,ha.ev,hr,Oper.uponIn_value];exact hK _ _ (RF hh hc hd hdn ha)
 ·rw[CK _ _ _ hnd,ha.ev,hr,Oper.uponIn_skip];have:=RF hh hc hd hdn ha;rw[h0]at this⊢;exact hK _ _ this
def ck(P:Program)(n:Nat)(fb:Nat->Value)(k:Nat)(w:World)(s:Sta):Option (Sta×World×Oper×Option Nat):=match it P n fb k w s with
 |some x=>(cu n fb x.1).map λy=>(x.1,x.2,y.1,y.2)
 |none=>none
def cr(P:Program)(n:Nat)(fb:Nat->Value)(k:Nat)(w:World)(s:Sta):Option (Sta×World×Result Next):=match it P n fb k w s with
 |some x=>(opR P n fb x.1 x.2).map λy=>(x.1,x.2,y)
 |none=>none
theorem Lt{k:Nat}{t:Sta}{o:Oper}{d:Option Nat}(h:ck P n fb k w s=some (t,w,o,d)):it P n fb k w s=some (t,w)/\cu n fb t=some (o,d):=by
 unfold ck at h;split at h
 ·rename_i x hx;obtain⟨t1,w1⟩:=x;cases hq:cu n fb t1 with
  |none=>rw[hq]at h;cases h
  |some y=>rw[hq]at h;cases h;exact⟨hx,hq⟩
 ·cases h
theorem Ks{k:Nat}{t:Sta}{x:Result Next}(h:cr P n fb k w s=some (t,w,x)):it P n fb k w s=some (t,w)/\∃o d,cu n fb t=some (o,d)/\(execOp (ev t.e fb) o).run P w=x:=by
 unfold cr at h;split at h
 ·rename_i y hy;obtain⟨t1,w1⟩:=y;unfold opR at h;cases hq:cu n fb t1 with
  |none=>simp only[hq]at h;cases h
  |some z=>simp only[hq,CA]at h;cases h;exact⟨hy,_,_,hq,rfl⟩
 ·cases h
theorem Hx(k:Nat)(o:Oper)(v:Value)(hr:∀fb,(execOp (ev (au P n k w s).e fb) o).run P w= .ok (.value v) w')(hh:HD r m P ds n Q (pv (au P n k w s) v) w')(hk:∀fb,ck P n fb k w s=some (au P n k w s,w,o,o.dst):=by intro _;kernel_rfl):HD r m P ds n Q s w:= .mk λfb=>by
 obtain⟨h1,h2⟩:=Lt (hk fb);exact G2 k h1 (WC (λfb'=>⟨o,_,(Lt (hk fb')).2, .inl (hr fb')⟩) hh fb)
theorem Hs(k:Nat)(o:Oper)(hr:∀fb,(execOp (ev (au P n k w s).e fb) o).run P w= .ok .skip w')(hh:HD r m P ds n Q (pv (au P n k w s) undef) w')(hk:∀fb,ck P n fb k w s=some (au P n k w s,w,o,none):=by intro _;kernel_rfl):HD r m P ds n Q s w:= .mk λfb=>by
 obtain⟨h1,h2⟩:=Lt (hk fb);have h0:o.dst=none:=by obtain⟨ops,l,hc,hd,_⟩:=KV h2;exact hd
 exact G2 k h1 (WC (λfb'=>⟨o,_,(Lt (hk fb')).2, .inr ⟨h0,hr fb'⟩⟩) hh fb)
theorem Hw(k:Nat)(v v':Value)(e:v=v')(hh:HD r m P ds n Q (pv (au P n k w s) v') w)(hk:∀fb,cr P n fb k w s=some (au P n k w s,w, .ok (.value v) w):=by intro _;kernel_rfl):HD r m P ds n Q s w:= .mk λfb=>by
 obtain⟨h1,_⟩:=Ks (hk fb);exact G2 k h1 (WC (λfb'=>by obtain⟨_,o,d,h2,h3⟩:=Ks (hk fb');exact⟨o,d,h2, .inl (by rw[h3,e])⟩) hh fb)
theorem Hp(k:Nat)(v:Value)(hh:HD r m P ds n Q (pv (au P n k w s) v) w)(hk:∀fb,cr P n fb k w s=some (au P n k w s,w, .ok (.value v) w):=by intro _;kernel_rfl):HD r m P ds n Q s w:=Hw k v v rfl hh hk
theorem Hi(k:Nat)(x y:Int)(hh:HD r m P ds n Q (pv (au P n k w s) (.int .i64 y)) w)(he:IntKind.i64.wrap x=y:=by first|exact Ec (by omega) (by omega)|(rw[Ec (by omega) (by omega)];rfl))(hk:∀fb,cr P n fb k w s=some (au P n k w s,w, .ok (.value (.int .i64 (IntKind.i64.wrap x))) w):=by intro _;kernel_rfl):HD r m P ds n Q s w:=Hw k _ _ (by rw[he]) hh hk
theorem Hb(k:Nat)(b c:Bool)(e:b=c)(hh:HD r m P ds n Q (pv (au P n k w s) (.bool c)) w)(hk:∀fb,cr P n fb k w s=some (au P n k w s,w, .ok (.value (.bool b)) w):=by intro _;kernel_rfl):HD r m P ds n Q s w:=Hw k _ _ (by rw[e]) hh hk
theorem Ht(k:Nat)(p:Prop)[Decidable p](hh:HD r m P ds n Q (pv (au P n k w s) (.bool true)) w)(e:p:=by omega)(hk:∀fb,cr P n fb k w s=some (au P n k w s,w, .ok (.value (.bool (decide p))) w):=by intro _;kernel_rfl):HD r m P ds n Q s w:=Hb k _ _ (AT e) hh hk
theorem Hf(k:Nat)(p:Prop)[Decidable p](hh:HD r m P ds n Q (pv (au P n k w s) (.bool false)) w)(e:¬p:=by omega)(hk:∀fb,cr P n fb k w s=some (au P n k w s,w, .ok (.value (.bool (decide p))) w):=by intro _;kernel_rfl):HD r m P ds n Q s w:=Hb k _ _ (Bb e) hh hk
theorem Hq(k:Nat)(x y:Int)(hh:HD r m P ds n Q (pv (au P n k w s) (.bool true)) w)(e:x=y:=by omega)(hk:∀fb,cr P n fb k w s=some (au P n k w s,w, .ok (.value (.bool (x==y))) w):=by intro _;kernel_rfl):HD r m P ds n Q s w:=Hb k _ _ (D6.2 e) hh hk
theorem Hz(k:Nat)(x y:Int)(hh:HD r m P ds n Q (pv (au P n k w s) (.bool false)) w)(e:x≠y:=by omega)(hk:∀fb,cr P n fb k w s=some (au P n k w s,w, .ok (.value (.bool (x==y))) w):=by intro _;kernel_rfl):HD r m P ds n Q s w:=Hb k _ _ (Bp.2 e) hh hk
theorem Hn(k:Nat)(cells:Array Value)(T:TypeId)(hh:∀w' g,New w w' g cells T->Rw g w' cells T->HD r m P ds n Q (pv (au P n k w s) (.pointer (some ⟨g,0,none⟩))) w')(hk:∀fb,cr P n fb k w s=some (au P n k w s,w, .ok (.value (.pointer (some ⟨w.heap.size,0,none⟩))) (w.alloc (.cells cells T))):=by intro _;kernel_rfl):HD r m P ds n Q s w:= .mk λfb=>by
 obtain⟨h1,_⟩:=Ks (hk fb);have hn:New w (w.alloc (.cells cells T)) w.heap.size cells T:=⟨rfl,rfl⟩;exact G2 k h1 (WC (λfb'=>by obtain⟨_,o,d,h2,h3⟩:=Ks (hk fb');exact⟨o,d,h2, .inl h3⟩) (hh _ _ hn hn.row) fb)
theorem Hc(k:Nat){f:FuncId}{args:Array Value}{R:Value->World->Prop}(hf:Calls P f args w λe w'=>∃v,e= .returned v/\R v w')(hh:∀v w',R v w'->HD r m P ds n Q (pv (au P n k w s) v) w')(hk:∀fb,cr P n fb k w s=some (au P n k w s,w, .ok (.enter f args) w):=by intro _;kernel_rfl):HD r m P ds n Q s w:= .mk λfb=>by
 obtain⟨h1,_⟩:=Ks (hk fb);refine G2 k h1 ?_;intro a ha;obtain⟨_,o,d,hcu,hr⟩:=Ks (hk fb);obtain⟨ops,l,hc,hd,hdn,hw,hnd⟩:=KV hcu;rw[hc];refine DY λK hK=>?_;rw[ha.want,hw,Ai rfl];refine⟨λf _=>trivial,?_⟩;rw[CK _ _ _ hnd,ha.ev,hr,Oper.uponIn_enter];refine⟨λh=>absurd h Cv,?_⟩;refine CallsIn.mono' (callsIn_fz.2 hf) ?_;rintro e w'⟨v,rfl,hR⟩;exact hK _ _ (RF (hh v w' hR) hc hd hdn ha)
def ldA(fb:Nat->Value)(t:Sta)(o:Oper):Option (TypeId×Value):=match o.op with
 | .load T x=>some (T,ev t.e fb x)
 |_=>none
def cl(P:Program)(n:Nat)(fb:Nat->Value)(k:Nat)(w:World)(s:Sta):Option (Sta×World×TypeId×Value):=match ck P n fb k w s with
 |some x=>(ldA fb x.1 x.2.2.1).map λy=>(x.1,x.2.1,y)
 |none=>none
theorem Yd{k:Nat}{t:Sta}{T:TypeId}{p:Value}(h:cl P n fb k w s=some (t,w,T,p)):∃o d x,ck P n fb k w s=some (t,w,o,d)/\o.op= .load T x/\ev t.e fb x=p:=by
 unfold cl at h;split at h
 ·rename_i y hy;obtain⟨t1,w1,o,d⟩:=y;unfold ldA at h;split at h
  ·rename_i T' x hx;cases h;exact⟨o,d,x,hy,hx,rfl⟩
  ·cases h
 ·cases h
def isCell(P:Program)(T:TypeId):Bool:=match P.underlying T with
 |some d=>match d with
  | .struct _| .array _ _=>false
  |_=>true
 |none=>false
theorem Hl(k:Nat){g:Nat}{cells:Array Value}{T0:TypeId}(hg:Rw g w cells T0)(j:Nat)(T:TypeId)(v:Value)(hh:HD r m P ds n Q (pv (au P n k w s) v) w)(hv:cells[j]?=some v:=by kernel_rfl)(hT:isCell P T=true:=by kernel_rfl)
 (hk:∀fb,cl P n fb k w s=some (au P n k w s,w,T, .pointer (some ⟨g,j,none⟩)):=by intro _;kernel_rfl):HD r m P ds n Q s w:= .mk λfb=>by
 obtain⟨o,d,x,h1,_⟩:=Yd (hk fb);refine G2 k (Lt h1).1 (WC (λfb'=>?_) hh fb);obtain⟨o,d,x,h1,h2,h3⟩:=Yd (hk fb');refine⟨o,d,(Lt h1).2, .inl ?_⟩;unfold isCell at hT;split at hT
 ·rename_i dd hu;refine AA T x ⟨g,j,none⟩ v dd h2 h3 ?_ hu ?_
  ·have hg':w.heap[g]?=some (.cells cells T0 (0,0)):=hg;simp[World.cell?,hg',hv]
  ·cases dd<;>first|rfl|cases hT
 ·cases hT
def ce(P:Program)(n:Nat)(fn:Func)(fb:Nat->Value)(k:Nat)(w:World)(s:Sta):Option (Result Value):=match it P n fb k w s with
 |some x=>match x.1.k with
  |[]=>match x.1.c with
   | .inr (.inl .ret)=>some ((resF (lkF x.1.e fb) fn.results).run P x.2)
   | .inr (.inl .normal)=>some ((resF (lkF x.1.e fb) fn.results).run P x.2)
   |_=>none
  |_=>none
 |none=>none
theorem Hr(k:Nat){fn:Func}{R:Ending->World->Prop}(v:Value)(hR:R (.returned v) w)(hk:∀fb,ce P n fn fb k w s=some (.ok v w):=by intro _;kernel_rfl)(hi:∀fb,it P n fb k w s=some (au P n k w s,w):=by intro _;kernel_rfl):HD r m P [] n (bodyPost P fn R) s w:= .mk λfb=>by
 have h1:=hi fb;have h2:=hk fb;refine G2 k h1 ?_;intro a ha;unfold ce at h2;rw[h1]at h2;simp only at h2;have key:(resF (lkF (au P n k w s).e fb) fn.results).run P w= .ok v w->a.defers=[]/\∃v,(results fn a.tmps).run P w= .ok v w/\R (.returned v) w:=λh=>by
  refine⟨ha.df,v,?_,hR⟩;rw[Ff,show(λt=>a.tmps.getD t undef)=lkF (au P n k w s).e fb from funext ha.get];exact h
 split at h2
 ·rename_i hk0;rw[hk0];split at h2
  ·rename_i hc;rw[hc];exact key (CQ h2)
  ·rename_i hc;rw[hc];exact key (CQ h2)
  ·cases h2
 ·cases h2
def cf(P:Program)(n:Nat)(fb:Nat->Value)(k:Nat)(w:World)(s:Sta):Option (Sta×World×Bool):=match it P n fb k w s with
 |some x=>some (x.1,x.2,match x.1.k with
  |[]=>match x.1.c with
   | .inr (.inl .ret)=>true
   | .inr (.inl .normal)=>true
   |_=>false
  |_=>false)
 |none=>none
theorem OB(k:Nat){fn:Func}{R:Ending->World->Prop}(v:Value)(hr:∀fb,(resF (lkF (au P n k w s).e fb) fn.results).run P w= .ok v w)(hR:R (.returned v) w)(hk:∀fb,cf P n fb k w s=some (au P n k w s,w,true):=by intro _;kernel_rfl):HD r m P [] n (bodyPost P fn R) s w:= .mk λfb=>by
 have h2:=hk fb;unfold cf at h2;split at h2
 ·rename_i x hx;obtain⟨t,w1⟩:=x;simp only[C5,CM]at h2;obtain⟨e1,e2,h2⟩:=h2;subst e2;refine G2 k hx ?_;intro a ha;have key:a.defers=[]/\∃v,(results fn a.tmps).run P w1= .ok v w1/\R (.returned v) w1:=by
   refine⟨ha.df,v,?_,hR⟩;rw[Ff,show(λt=>a.tmps.getD t undef)=lkF t.e fb from funext ha.get,e1];exact hr fb
  split at h2
  ·rename_i hk0;rw[hk0];split at h2
   ·rename_i hc;rw[hc];exact key
   ·rename_i hc;rw[hc];exact key
   ·cases h2
  ·cases h2
 ·cases h2
def bd(fn:Func):Code:=match fn.body with
 |some c=>c
 |none=> .skip
def rg(id:Nat):Code->Option (Array Oper)
 | .region j ops _=>bif Nat.beq j id then some ops else none
 | .seq a b=>match rg id a with
  |some x=>some x
  |none=>rg id b
 | .cond _ a b=>match rg id a with
  |some x=>some x
  |none=>rg id b
 | .rangeFunc _ _ a b=>match rg id a with
  |some x=>some x
  |none=>rg id b
 | .block _ c=>rg id c
 | .loop c=>rg id c
 | .scope c=>rg id c
 |_=>none
def og(fn:Func)(id i:Nat):Oper:=match rg id (bd fn)with
 |some ops=>match ops[i]? with
  |some o=>o
  |none=>default
 |none=>default
theorem EO{f:FuncId}{fn:Func}{args:Array Value}{R:Ending->World->Prop}(hf:P.funcs[f]?=some fn)(n:Nat)
 (h:HD none 20 P [] n (bodyPost P fn R) ⟨.inl (bd fn),[],argE 0 args.toList⟩ w) (hb:fn.body=some (bd fn):=by kernel_rfl) (hn:args.size+(fn.ntmps-args.size)=n:=by kernel_rfl):Calls P f args w R:=CV hf hb n hn λa ha=>h.g _ a ha.fm
def co(P:Program)(n:Nat)(fb:Nat->Value)(k:Nat)(w:World)(s:Sta)(E:Env):Option (Cf×List Kf×World×List Value):=match it P n fb k w s with
 |some x=>some (x.1.c,x.1.k,x.2,E.map λp=>lkF x.1.e fb p.1)
 |none=>none
theorem Ye{k:Nat}{E:Env}{c:Cf}{K:List Kf}{vs:List Value}(h:co P n fb k w s E=some (c,K,w',vs)):∃t,it P n fb k w s=some (t,w')/\t.c=c/\t.k=K/\(E.map λp=>lkF t.e fb p.1)=vs:=by
 unfold co at h;split at h
 ·rename_i x hx;obtain⟨t,w1⟩:=x;cases h;exact⟨t,hx,rfl,rfl,rfl⟩
 ·cases h
theorem Fm.cov{a:Act}{e E:Env}(ha:Fm ds n e fb a)(h:(E.map λp=>lkF e fb p.1)=E.map (·.2)):Frm ds n E a:=by
 refine⟨ha.df,ha.sz,λt=>?_⟩;have key:∀(E:Env),(E.map λp=>lkF e fb p.1)=E.map (·.2)->a.tmps.getD t undef=lkF E (λt=>a.tmps.getD t undef) t:=by
  intro E
  induction E with
  |nil=>intro _;rfl
  |cons p r ih=>
   intro h;obtain⟨d,v⟩:=p;simp only[BX,List.cons.injEq]at h;simp only[lkF];cases hq:Nat.beq d t with
   |false=>simpa using ih h.2
   |true=>
    have:=Df hq;subst this;simp only[cond_true];rw[ha.get d];exact h.1
 exact key E h
def lc(t:Sta):Code:=match t.c with
 | .inl (.loop c)=>c
 |_=> .skip
theorem Ho{X:Type}(k:Nat)(E:X->Env)(R:X->World->Prop)(μ:X->Nat)(x0:X)(h0:R x0 w)
 (round:∀x v,R x v->∀(I:Act->World->Prop),(∀(k':Nat)(x':X){s':Sta}{v':World},R x' v'->μ x'<μ x->(∀fb,co P n fb k' v' s' (E x')=some (.inr (.inl .normal), .inr (.inr I)::(au P n k w s).k,v',(E x').map (·.2)))->HD r m P ds n Q s' v')->HD r m P ds n Q ⟨.inl (lc (au P n k w s)), .inr (.inr I)::(au P n k w s).k,E x⟩ v)
 (hk:∀fb,co P n fb k w s (E x0)=some (.inl (.loop (lc (au P n k w s))),(au P n k w s).k,w,(E x0).map (·.2)):=by intro _;kernel_rfl):HD r m P ds n Q s w:= .mk λfb=>by
 obtain⟨t,h1,h2,h3,h4⟩:=Ye (hk fb);refine G2 k h1 ?_;intro a ha;rw[h2,h3];refine Hg (λk a w=>∃x,μ x=k/\Frm ds n (E x) a/\R x w) (μ x0) ⟨x0,rfl,ha.cov h4,h0⟩ ?_;rintro j a v⟨x,rfl,hF,hR⟩;refine(round x v hR (λa' w'=>∃k',k'<μ x/\∃x',μ x'=k'/\Frm ds n (E x') a'/\R x' w') ?_).g _ a hF.fm;intro k' x' s' v' hR' hm' hk';refine .mk λfb'=>?_;obtain⟨t',g1,g2,g3,g4⟩:=Ye (hk' fb');refine G2 k' g1 ?_;intro a' ha';rw[g2,g3];exact⟨μ x',hm',x',rfl,ha'.cov g4,hR'⟩
theorem Ha(k:Nat)(o:Oper)(g j:Nat)(v:Value)(hr:∀fb,(execOp (ev (au P n k w s).e fb) o).run P w= .ok .skip (w.setCell ⟨g,j,none⟩ v))(hh:∀w',Set1 w w' g j v->HD r m P ds n Q (pv (au P n k w s) undef) w')(hk:∀fb,ck P n fb k w s=some (au P n k w s,w,o,none):=by intro _;kernel_rfl):HD r m P ds n Q s w:=Hs k o hr (hh _ ⟨rfl⟩) hk
theorem Hy(k:Nat)(o:Oper)(g:Nat)(cells:Array Value)(hr:∀fb,(execOp (ev (au P n k w s).e fb) o).run P w= .ok .skip (w.setRow g cells))(hh:∀w',Put w w' g cells->HD r m P ds n Q (pv (au P n k w s) undef) w')(hk:∀fb,ck P n fb k w s=some (au P n k w s,w,o,none):=by intro _;kernel_rfl):HD r m P ds n Q s w:=Hs k o hr (hh _ ⟨rfl⟩) hk
theorem WD(k:Nat)(cells:Array Value)(T:TypeId)(c:Nat)(hh:∀w' g,New w w' g cells T->Rw g w' cells T->HD r m P ds n Q (pv (au P n k w s) (.slice (some ⟨g,0,none⟩) c c)) w')(hk:∀fb,cr P n fb k w s=some (au P n k w s,w, .ok (.value (.slice (some ⟨w.heap.size,0,none⟩) c c)) (w.alloc (.cells cells T))):=by intro _;kernel_rfl):HD r m P ds n Q s w:= .mk λfb=>by
 obtain⟨h1,_⟩:=Ks (hk fb);have hn:New w (w.alloc (.cells cells T)) w.heap.size cells T:=⟨rfl,rfl⟩;exact G2 k h1 (WC (λfb'=>by obtain⟨_,o,d,h2,h3⟩:=Ks (hk fb');exact⟨o,d,h2, .inl h3⟩) (hh _ _ hn hn.row) fb)
theorem Hm(k:Nat)(o:Oper)(f:FuncId)(args:Array Value)(hr:∀fb,(execOp (ev (au P n k w s).e fb) o).run P w= .ok (.enter f args) w){R:Value->World->Prop}(hf:Calls P f args w λe w'=>∃v,e= .returned v/\R v w')(hh:∀v w',R v w'->HD r m P ds n Q (pv (au P n k w s) v) w')(hk:∀fb,ck P n fb k w s=some (au P n k w s,w,o,o.dst):=by intro _;kernel_rfl):HD r m P ds n Q s w:= .mk λfb=>by
 obtain⟨h1,hcu⟩:=Lt (hk fb);refine G2 k h1 ?_;intro a ha;obtain⟨ops,l,hc,hd,hdn,hw,hnd⟩:=KV hcu;rw[hc];refine DY λK hK=>?_;rw[ha.want,hw,Ai rfl];refine⟨λf _=>trivial,?_⟩;rw[CK _ _ _ hnd,ha.ev,hr,Oper.uponIn_enter];refine⟨λh=>absurd h Cv,?_⟩;refine CallsIn.mono' (callsIn_fz.2 hf) ?_;rintro e w'⟨v,rfl,hR⟩;exact hK _ _ (RF (hh v w' hR) hc rfl hdn ha)
end
structure Dt where
 o:Array Oper
 l:Array Bool
 f:Nat
 k:List Kf
 e:Env
theorem Hv{r:Option Nat}{m:Nat}{P:Program}{Q:Exit->Act->World->Prop}{ch:List PanicEntry}{a:Act}{w:World}:∀(k:List Kf),Qs r m P Q k (.panic ch) a w↔Q (.panic ch) a w
 |[]=>Iff.rfl
 | .inl c::k=>Hv (r:=r) (m:=m) (P:=P) k
 | .inr (.inl id)::k=>Hv (r:=r) (m:=m) (P:=P) k
 | .inr (.inr I)::k=>Hv (r:=r) (m:=m) (P:=P) k
section
variable {r : Option Nat} {m : Nat} {P : Program} {ds : List Deferred} {n : Nat} {Q : Exit → Act → World → Prop} {w w' : World} {s : Sta} {t t' : Dt} {fb : Nat → Value} {S : World → Prop}
structure Dh(r:Option Nat)(m:Nat)(P:Program)(ds:List Deferred)(n:Nat)(Q:Exit->Act->World->Prop)(S:World->Prop)(t:Dt)(w:World):Prop where
 g:∀fb a,Fm ds n t.e fb a->wpAnyH P .any t.o (Qs r m P Q t.k) S t.f t.l a w
def d0(s:Sta):Dt:=match s.c with
 | .inl (.region _ ops _)=>⟨ops,Array.replicate ops.size false,ops.size,s.k,s.e⟩
 |_=>⟨#[],#[],0,s.k,s.e⟩
def isD(s:Sta):Bool:=match s.c with
 | .inl (.region _ _ d)=>d
 |_=>false
theorem Hj(k:Nat)(S:World->Prop)(hS:S w.drew)(h:Dh none m P ds n Q S (d0 (au P n k w s)) w.drew)(hm:P.follows .mixedOrders=true:=by kernel_rfl)(hd:isD (au P n k w s)=true:=by kernel_rfl)
 (hk:∀fb,it P n fb k w s=some (au P n k w s,w):=by intro _;kernel_rfl):HD none m P ds n Q s w:= .mk λfb=>by
 refine G2 k (hk fb) ?_;intro a ha;have h:=h.g fb a
 revert h hd ha
 generalize au P n k w s=x;obtain⟨c,kk,e⟩:=x;intro hd ha h;rcases c with c|y|z
 ·cases c with
  |region id ops d=>
   have hd':d=true:=hd;subst hd';exact wpIn_wide.2 (BZ hm hS (λ_=>h ha))
  |_=>cases hd
 ·cases hd
 ·cases hd
def dpv(t:Dt)(i:Nat)(v:Value):Dt:=⟨t.o,t.l.setIfInBounds i true,t.f-1,t.k,match(t.o[i]?).bind (·.dst)with|some d=>(d,v)::t.e|none=>t.e⟩
def dk(fr:Bool)(n:Nat)(fb:Nat->Value)(t:Dt)(i:Nat):Option (Oper×Bool):=match t.o[i]? with
 |some o=>bif Nat.blt 0 t.f&&(!fr||tkOk t.o t.l i)&&noDefer o&&(match o.dst with|some d=>Nat.blt d n|none=>true)then some (o,Region.wanted o (yF t.o t.e fb))else none
 |none=>none
theorem MF{i:Nat}{o:Oper}{b fr:Bool}(h:dk fr n fb t i=some (o,b)):t.o[i]?=some o/\0<t.f/\(fr=true->tkOk t.o t.l i=true)/\(∀c,o.op≠ .defer c)/\(∀d,o.dst=some d->d<n)/\Region.wanted o (yF t.o t.e fb)=b:=by
 unfold dk at h;split at h
 ·rename_i o1 ho;cases hq:(Nat.blt 0 t.f&&(!fr||tkOk t.o t.l i)&&noDefer o1&&(match o1.dst with|some d=>Nat.blt d n|none=>true))with
  |false=>rw[hq]at h;cases h
  |true=>
   rw[hq]at h;cases h;simp only[BN]at hq;exact⟨ho,by simpa[EW]using hq.1.1.1,λhf=>by have:=hq.1.1.2;rw[hf]at this;simpa using this,EE hq.1.2,λd hd=>by have:=hq.2;rw[hd]at this;simpa[EW]using this,rfl⟩
 ·cases h
theorem JQ{i:Nat}{o:Oper}{v:Value}{a:Act}(ho:t.o[i]?=some o)(hd:∀d,o.dst=some d->d<n)(ha:Fm ds n t.e fb a):Fm ds n (dpv t i v).e fb (a.put o.dst v):=by
 unfold dpv;simp only[ho,Option.bind_some];cases hx:o.dst with
 |none=>exact ha
 |some d=>exact ha.put (hd d hx) v
theorem NB{i:Nat}{o:Oper}{v:Value}{b:Bool}(hk:dk true n fb t i=some (o,b))(hQ:∀c a d v w,Q (.panic c) (Act.put a (some d) v) w->Q (.panic c) a w)(hS:S w)
 (hr:b=true->∀u,S u->(execOp (ev t.e fb) o).run P u= .ok (.value v) u) (hf:b=false->v=undef)
 (h:∀a,Fm ds n (dpv t i v).e fb a->wpAnyH P .any t.o (Qs r m P Q t.k) S (t.f-1) (t.l.setIfInBounds i true) a w):∀a,Fm ds n t.e fb a->wpAnyH P .any t.o (Qs r m P Q t.k) S t.f t.l a w:=by
 intro a ha;obtain⟨ho,h0,hk1,hnd,hdn,hw⟩:=MF hk;have hk1:=hk1 rfl;unfold tkOk at hk1;simp only[BN]at hk1;obtain⟨f,hf'⟩:∃f,t.f=f+1:=⟨t.f-1,by omega⟩;have h:=h _ (JQ ho hdn ha);rw[hf']at h⊢;refine wpAnyH_take ho hk1.1.1 hk1.1.2 hk1.2 (v:=v) (λc a1 w1 hq=>(Hv _).2 (by have:=(Hv _).1 hq;revert this;cases o.dst with|none=>exact id|some d=>exact hQ _ _ _ _ _)) ?_ hS h;cases b with
 |true=>exact Or.inl ⟨by rw[ha.want];exact hw,λu hu=>by rw[ha.ev];exact hr rfl u hu⟩
 |false=>exact Or.inr ⟨by rw[ha.want];exact hw,hf rfl⟩
def tv(P:Program)(n:Nat)(w:World)(t:Dt)(i:Nat):Value:=match dk true n (λ_=>undef) t i with
 |some x=>bif x.2 then match(execOp (ev t.e λ_=>undef) x.1).run P w with
   | .ok (.value v) _=>v
   |_=>undef
  else undef
 |none=>undef
def td(P:Program)(n:Nat)(w:World):List Nat->Dt->Dt
 |[],t=>t
 |i::l,t=>td P n w l (dpv t i (tv P n w t i))
def tc(P:Program)(n:Nat)(fb:Nat->Value)(u w:World):List Nat->Dt->List (Option (Result Next))
 |[],_=>[]
 |i::l,t=>((dk true n fb t i).map λx=>bif x.2 then(execOp (ev t.e fb) x.1).run P u else .ok (.value undef) u)::tc P n fb u w l (dpv t i (tv P n w t i))
def te(P:Program)(n:Nat)(u w:World):List Nat->Dt->List (Option (Result Next))
 |[],_=>[]
 |i::l,t=>some (.ok (.value (tv P n w t i)) u)::te P n u w l (dpv t i (tv P n w t i))
theorem Zw(hQ:∀c a d v w,Q (.panic c) (Act.put a (some d) v) w->Q (.panic c) a w)(hS:S w)(x:World):∀(l:List Nat){t:Dt},(∀u,tc P n fb u x l t=te P n u x l t)->(∀a,Fm ds n (td P n x l t).e fb a->wpAnyH P .any (td P n x l t).o (Qs r m P Q (td P n x l t).k) S (td P n x l t).f (td P n x l t).l a w)->∀a,Fm ds n t.e fb a->wpAnyH P .any t.o (Qs r m P Q t.k) S t.f t.l a w:=by
 intro l
 induction l with
 |nil=>intro t _ hh;exact hh
 |cons i l ih=>
  intro t h hh;have h1:∀u,((dk true n fb t i).map λx=>bif x.2 then(execOp (ev t.e fb) x.1).run P u else .ok (.value undef) u)=some (.ok (.value (tv P n x t i)) u):=λu=>(List.cons.inj (h u)).1;have h2:=ih (t:=dpv t i (tv P n x t i)) (λu=>(List.cons.inj (h u)).2) hh;cases hk:dk true n fb t i with
  |none=>have:=h1 w;rw[hk]at this;cases this
  |some y=>
   obtain⟨o,b⟩:=y;rw[hk]at h1;refine NB (v:=tv P n x t i) hk hQ hS (λhb u _=>?_) (λhb=>?_) h2
   ·have:=CQ (h1 u);rw[hb]at this;exact this
   ·have:=CQ (h1 w);rw[hb]at this;simp only[cond_false]at this;injection this with e1;injection e1 with e2;exact e2.symm
theorem ZA(l:List Nat)(hS:S w)(h:Dh r m P ds n Q S (td P n w l t) w)(hk:∀fb u,tc P n fb u w l t=te P n u w l t:=by intro _ _;kernel_rfl)(hQ:∀c a d v w,Q (.panic c) (Act.put a (some d) v) w->Q (.panic c) a w:=by exact λ_ _ _ _ _ h=>h):Dh r m P ds n Q S t w:= .mk λfb=>Zw hQ hS w l (hk fb) (h.g fb)
theorem Dx(l:List Nat)(i:Nat)(o:Oper)(v:Value)(hr:∀u,S u->∀fb,(execOp (ev (td P n w l t).e fb) o).run P u= .ok (.value v) u)(hS:S w)(h:Dh r m P ds n Q S (dpv (td P n w l t) i v) w)(hk:∀fb u,tc P n fb u w l t=te P n u w l t:=by intro _ _;kernel_rfl)
 (hi:∀fb,dk true n fb (td P n w l t) i=some (o,true):=by intro _;kernel_rfl) (hQ:∀c a d v w,Q (.panic c) (Act.put a (some d) v) w->Q (.panic c) a w:=by exact λ_ _ _ _ _ h=>h):Dh r m P ds n Q S t w:=
 ZA l hS (.mk λfb=>NB (hi fb) hQ hS (λ_ u hu=>hr u hu fb) (λh=>by cases h) (h.g fb)) hk hQ
structure Ah(r:Option Nat)(m:Nat)(P:Program)(ds:List Deferred)(n:Nat)(Q:Exit->Act->World->Prop)(S:World->Prop)(t:Dt)(w:World)(rs:List Nat):Prop where
 g:∀fb a,Fm ds n t.e fb a->AllReadyH P .any t.o (Qs r m P Q t.k) S (t.f-1) t.l a w rs
theorem Dy(l:List Nat)(rs:List Nat)(hS:S w)(h:Ah r m P ds n Q S (td P n w l t) w rs)(hk:∀fb u,tc P n fb u w l t=te P n u w l t:=by intro _ _;kernel_rfl)
 (hi:(Region.ready .any (td P n w l t).o (td P n w l t).l,Nat.blt 0 (td P n w l t).f,rs.isEmpty)=(rs,true,false):=by kernel_rfl) (hQ:∀c a d v w,Q (.panic c) (Act.put a (some d) v) w->Q (.panic c) a w:=by exact λ_ _ _ _ _ h=>h):Dh r m P ds n Q S t w:=
 ZA l hS (.mk λfb a ha=>by
  have h:=h.g fb a ha
  revert h hi
  generalize td P n w l t=x;intro hi h;simp only[CM]at hi
  obtain⟨f,hf⟩:∃f,x.f=f+1:=⟨x.f-1,by have:0<x.f:=by simpa[EW]using hi.2.1
                                     omega⟩
  rw[hf]at h⊢;exact AF hi.1 (by intro e;rw[e]at hi;exact absurd hi.2.2 (by decide)) h) hk hQ
theorem Dq(l:List Nat)(hS:S w)(h:HD r m P ds n Q ⟨.inr (.inl .normal),(td P n w l t).k,(td P n w l t).e⟩ w)(hk:∀fb u,tc P n fb u w l t=te P n u w l t:=by intro _ _;kernel_rfl)
 (hi:Region.ready .any (td P n w l t).o (td P n w l t).l=[]:=by kernel_rfl) (hQ:∀c a d v w,Q (.panic c) (Act.put a (some d) v) w->Q (.panic c) a w:=by exact λ_ _ _ _ _ h=>h):Dh r m P ds n Q S t w:=
 ZA l hS (.mk λfb a ha=>Ck hi (h.g fb a ha) _) hk hQ
theorem Do(h:HD r m P ds n Q ⟨.inr (.inl .normal),t.k,t.e⟩ w)(hi:Region.ready .any t.o t.l=[]:=by kernel_rfl):Dh r m P ds n Q S t w:= .mk λfb a ha=>Ck hi (h.g fb a ha) _
theorem Dz(rs:List Nat)(h:Ah r m P ds n Q S t w rs)(hi:(Region.ready .any t.o t.l,Nat.blt 0 t.f,rs.isEmpty)=(rs,true,false):=by kernel_rfl):Dh r m P ds n Q S t w:= .mk λfb a ha=>by
 have h:=h.g fb a ha
 revert h hi
 generalize t=x;intro hi h;simp only[CM]at hi;have h0:0<x.f:=by simpa[EW]using hi.2.1
 obtain⟨f,hf⟩:∃f,x.f=f+1:=⟨x.f-1,by omega⟩;rw[hf]at h⊢;exact AF hi.1 (by intro e;rw[e]at hi;exact absurd hi.2.2 (by decide)) h
theorem Dl(l:List Nat)(i:Nat){g:Nat}{cells:Array Value}{T0:TypeId}(hg:∀u,S u->Rw g u cells T0)(j:Nat)(T:TypeId)(v:Value)(hS:S w)(h:Dh r m P ds n Q S (dpv (td P n w l t) i v) w)(hv:cells[j]?=some v:=by kernel_rfl)(hT:isCell P T=true:=by kernel_rfl)
 (hi:∀fb,((dk true n fb (td P n w l t) i).map λx=>(x.2,ldA fb ⟨.inr (.inl .normal),[],(td P n w l t).e⟩ x.1))=some (true,some (T, .pointer (some ⟨g,j,none⟩))):=by intro _;kernel_rfl)
 (hk:∀fb u,tc P n fb u w l t=te P n u w l t:=by intro _ _;kernel_rfl) (hQ:∀c a d v w,Q (.panic c) (Act.put a (some d) v) w->Q (.panic c) a w:=by exact λ_ _ _ _ _ h=>h):Dh r m P ds n Q S t w:=
 ZA l hS (.mk λfb=>by
  have hj:=hi fb;cases hk:dk true n fb (td P n w l t) i with
  |none=>rw[hk]at hj;cases hj
  |some y=>
   obtain⟨o,b⟩:=y;rw[hk]at hj;simp only[CA,C5,CM]at hj;obtain⟨rfl,hj⟩:=hj;refine NB hk hQ hS (λ_ u hu=>?_) (λh=>by cases h) (h.g fb);unfold ldA at hj;split at hj
   ·rename_i T' x hx;simp only[C5,CM]at hj;obtain⟨rfl,hj⟩:=hj;unfold isCell at hT;split at hT
    ·rename_i dd hu';have hg':u.heap[g]?=some (.cells cells T0 (0,0)):=hg u hu;refine AA T' x ⟨g,j,none⟩ v dd hx ?_ ?_ hu' ?_
     ·exact hj
     ·simp[World.cell?,hg',hv]
     ·cases dd<;>first|rfl|cases hT
    ·cases hT
   ·cases hj) hk hQ
theorem yn:Ah r m P ds n Q S t w []:= .mk λfb a ha=>AB
section
variable {rs : List Nat}
theorem Yx(i:Nat)(o:Oper)(v:Value)(hr:∀fb,(execOp (ev t.e fb) o).run P w= .ok (.value v) w')(hS:S w')(h:Dh r m P ds n Q S (dpv t i v) w')(hs:Ah r m P ds n Q S t w rs)(hi:∀fb,dk false n fb t i=some (o,true):=by intro _;kernel_rfl):Ah r m P ds n Q S t w (i::rs):= .mk λfb a ha=>by
 obtain⟨ho,h0,_,hnd,hdn,hw⟩:=MF (hi fb);refine CL ho (λK hK=>?_) (hs.g fb a ha);rw[ha.want,hw,Ai rfl];unfold Oper.wp;rw[ha.ev,hr,ES];exact hK _ _ hS (λ_=>h.g _ _ (JQ ho hdn ha))
theorem Ys(i:Nat)(o:Oper)(hr:∀fb,(execOp (ev t.e fb) o).run P w= .ok .skip w')(hS:S w')(h:Dh r m P ds n Q S (dpv t i undef) w')(hs:Ah r m P ds n Q S t w rs)(hi:∀fb,dk false n fb t i=some (o,true):=by intro _;kernel_rfl)(h0:o.dst=none:=by kernel_rfl):Ah r m P ds n Q S t w (i::rs):= .mk λfb a ha=>by
 obtain⟨ho,_,_,hnd,hdn,hw⟩:=MF (hi fb);refine CL ho (λK hK=>?_) (hs.g fb a ha);rw[ha.want,hw,Ai rfl];unfold Oper.wp;rw[ha.ev,hr,Fl];exact hK _ _ hS (λ_=>h.g _ _ (JQ ho hdn ha))
def dr(P:Program)(n:Nat)(fb:Nat->Value)(w:World)(t:Dt)(i:Nat):Option (Bool×Result Next):=(dk false n fb t i).map λx=>(x.2,(execOp (ev t.e fb) x.1).run P w)
theorem Yf{i:Nat}{b:Bool}{x:Result Next}(h:dr P n fb w t i=some (b,x)):∃o,dk false n fb t i=some (o,b)/\(execOp (ev t.e fb) o).run P w=x:=by
 unfold dr at h;cases hk:dk false n fb t i with
 |none=>rw[hk]at h;cases h
 |some y=>rw[hk]at h;cases h;exact⟨_,rfl,rfl⟩
theorem Yv(i:Nat)(v:Value)(hS:S w')(h:Dh r m P ds n Q S (dpv t i v) w')(hs:Ah r m P ds n Q S t w rs)(hi:∀fb,dr P n fb w t i=some (true, .ok (.value v) w'):=by intro _;kernel_rfl):Ah r m P ds n Q S t w (i::rs):= .mk λfb a ha=>by
 obtain⟨o,hk,hr⟩:=Yf (hi fb);obtain⟨ho,h0,_,hnd,hdn,hw⟩:=MF hk;refine CL ho (λK hK=>?_) (hs.g fb a ha);rw[ha.want,hw,Ai rfl];unfold Oper.wp;rw[ha.ev,hr,ES];exact hK _ _ hS (λ_=>h.g _ _ (JQ ho hdn ha))
theorem Qc(i:Nat)(cells:Array Value)(T:TypeId)(c:Nat)(hS:∀w' g,New w w' g cells T->S w')(h:∀w' g,New w w' g cells T->Rw g w' cells T->Dh r m P ds n Q S (dpv t i (.slice (some ⟨g,0,none⟩) c c)) w')(hs:Ah r m P ds n Q S t w rs)(hi:∀fb,dr P n fb w t i=some (true, .ok (.value (.slice (some ⟨w.heap.size,0,none⟩) c c)) (w.alloc (.cells cells T))):=by intro _;kernel_rfl):Ah r m P ds n Q S t w (i::rs):=
 have hn:New w (w.alloc (.cells cells T)) w.heap.size cells T:=⟨rfl,rfl⟩
 Yv i _ (hS _ _ hn) (h _ _ hn hn.row) hs hi
theorem Ya(i:Nat)(o:Oper)(g j:Nat)(v:Value)(hr:∀fb,(execOp (ev t.e fb) o).run P w= .ok .skip (w.setCell ⟨g,j,none⟩ v))(hS:∀w',Set1 w w' g j v->S w')(h:∀w',Set1 w w' g j v->Dh r m P ds n Q S (dpv t i undef) w')(hs:Ah r m P ds n Q S t w rs)(hi:∀fb,dk false n fb t i=some (o,true):=by intro _;kernel_rfl)(h0:o.dst=none:=by kernel_rfl):Ah r m P ds n Q S t w (i::rs):=Ys i o hr (hS _ ⟨rfl⟩) (h _ ⟨rfl⟩) hs hi h0
theorem Yy(i:Nat)(o:Oper)(g:Nat)(cells:Array Value)(hr:∀fb,(execOp (ev t.e fb) o).run P w= .ok .skip (w.setRow g cells))(hS:∀w',Put w w' g cells->S w')(h:∀w',Put w w' g cells->Dh r m P ds n Q S (dpv t i undef) w')(hs:Ah r m P ds n Q S t w rs)(hi:∀fb,dk false n fb t i=some (o,true):=by intro _;kernel_rfl)(h0:o.dst=none:=by kernel_rfl):Ah r m P ds n Q S t w (i::rs):=Ys i o hr (hS _ ⟨rfl⟩) (h _ ⟨rfl⟩) hs hi h0
theorem Ym(i:Nat)(o:Oper)(f:FuncId)(args:Array Value)(hr:∀fb,(execOp (ev t.e fb) o).run P w= .ok (.enter f args) w){R:Value->World->Prop}(hf:Calls P f args w λe w'=>∃v,e= .returned v/\R v w')(hSS:∀v w',R v w'->S w')(h:∀v w',R v w'->Dh r m P ds n Q S (dpv t i v) w')(hs:Ah r m P ds n Q S t w rs)(hi:∀fb,dk false n fb t i=some (o,true):=by intro _;kernel_rfl):Ah r m P ds n Q S t w (i::rs):= .mk λfb a ha=>by
 obtain⟨ho,h0,_,hnd,hdn,hw⟩:=MF (hi fb);refine CL ho (λK hK=>?_) (hs.g fb a ha);rw[ha.want,hw,Ai rfl];unfold Oper.wp;rw[ha.ev,hr,ET];refine hf.mono ?_;rintro e w'⟨v,rfl,hR⟩;exact hK _ _ (hSS v w' hR) (λ_=>(h v w' hR).g _ _ (JQ ho hdn ha))
theorem Yc(i:Nat){f:FuncId}{args:Array Value}{R:Value->World->Prop}(hf:Calls P f args w λe w'=>∃v,e= .returned v/\R v w')(hSS:∀v w',R v w'->S w')(h:∀v w',R v w'->Dh r m P ds n Q S (dpv t i v) w')(hs:Ah r m P ds n Q S t w rs)(hi:∀fb,dr P n fb w t i=some (true, .ok (.enter f args) w):=by intro _;kernel_rfl):Ah r m P ds n Q S t w (i::rs):= .mk λfb a ha=>by
 obtain⟨o,hk,hr⟩:=Yf (hi fb);obtain⟨ho,h0,_,hnd,hdn,hw⟩:=MF hk;refine CL ho (λK hK=>?_) (hs.g fb a ha);rw[ha.want,hw,Ai rfl];unfold Oper.wp;rw[ha.ev,hr,ET];refine hf.mono ?_;rintro e w'⟨v,rfl,hR⟩;exact hK _ _ (hSS v w' hR) (λ_=>(h v w' hR).g _ _ (JQ ho hdn ha))
end
end
def rfB:Code->Option Code
 | .rangeFunc _ _ _ b=>some b
 | .seq a b=>match rfB a with
  |some x=>some x
  |none=>rfB b
 | .cond _ a b=>match rfB a with
  |some x=>some x
  |none=>rfB b
 | .block _ c=>rfB c
 | .loop c=>rfB c
 | .scope c=>rfB c
 |_=>none
def rfBd(fn:Func):Code:=match rfB (bd fn)with
 |some c=>c
 |none=> .skip
section
variable {r : Option Nat} {m : Nat} {P : Program} {ds : List Deferred} {n : Nat} {Q : Exit → Act → World → Prop} {w : World} {s : Sta}
end
end Go.Proofs.YtefhepcplempkaaGreat
