/- The items of package nest as plain trees, their encodings, what is amiss with them, and what bytes begin with: plain functions. -/
import Derived.Test.YtalhnnjpjaeakaaGreatAK
import Derived.Test.YtalhnnjpjaeakaaGreatG00
set_option linter.unusedVariables false
set_option maxHeartbeats 2000000
open Go.Proofs.Tryz Go.RowKit
namespace Go.Proofs.YtalhnnjpjaeakaaGreat
variable {n d w k W j : Nat} {α : Type} {b : List Int} {deep : Bool}
inductive T where
 |mk (l:Bool) (bs:List Int) (its:List T)
instance:Inhabited T:=⟨.mk false [] []⟩
def T.l:T->Bool| .mk l _ _=>l
def T.bs:T->List Int| .mk _ bs _=>bs
def T.its:T->List T| .mk _ _ its=>its
def nb(n:Nat):Nat:=if h:n=0 then 0 else 1+nb (n/256)
decreasing_by exact Eb (Nat.pos_of_ne_zero h) (by decide)
def be(n:Nat):List Int:=if h:n=0 then[]else be (n/256)++[((n%256:Nat):Int)]
decreasing_by exact Eb (Nat.pos_of_ne_zero h) (by decide)
theorem Ij:nb 0=0:=by rw[nb];rfl
theorem GQ(h:0<n):nb n=1+nb (n/256):=by rw[nb,dif_neg (by omega)]
theorem FY:be 0=[]:=by rw[be];rfl
theorem FM(h:0<n):be n=be (n/256)++[((n%256:Nat):Int)]:=by rw[be,dif_neg (by omega)]
theorem JN(n:Nat):(be n).length=nb n:=by
 induction n using Nat.strongRecOn with
 |_ n ih=>
  by_cases h:n=0
  ·subst h;rw[FY,Ij];rfl
  ·rw[FM (by omega),GQ (by omega),Ab,ih _ (Eb (by omega) (by decide))];simp[Nat.add_comm]
theorem Ol(h0:0<n)(h:n<256):nb n=1:=by rw[GQ h0,show n/256=0 from by omega,Ij]
theorem Om(h0:256<=n)(h:n<65536):nb n=2:=by rw[GQ (by omega),Ol (by omega) (by omega)]
theorem IX(h0:65536<=n)(h:n<16777216):nb n=3:=by rw[GQ (by omega),Om (by omega) (by omega)]
theorem Zm(h:n<4294967296):nb n<=4:=by
 by_cases h0:n=0
 ·subst h0;rw[Ij];omega
 ·by_cases h1:n<256
  ·rw[Ol (by omega) h1];omega
  ·by_cases h2:n<65536
   ·rw[Om (by omega) h2];omega
   ·by_cases h3:n<16777216
    ·rw[IX (by omega) h3];omega
    ·rw[GQ (by omega),IX (by omega) (by omega)];omega
theorem G6(h:n<16777216):nb n<=3:=by
 by_cases h0:n=0
 ·subst h0;rw[Ij];omega
 ·by_cases h1:n<256
  ·rw[Ol (by omega) h1];omega
  ·by_cases h2:n<65536
   ·rw[Om (by omega) h2];omega
   ·rw[IX (by omega) h];omega
theorem Zn(h:0<n):1<=nb n:=by rw[GQ h];omega
theorem Vu(h0:0<n)(h:n<256):be n=[(n:Int)]:=by
 rw[FM h0,show n/256=0 from by omega,FY,show n%256=n from by omega];rfl
theorem Vv(h0:256<=n)(h:n<65536):be n=[((n/256:Nat):Int),((n%256:Nat):Int)]:=by
 rw[FM (by omega),Vu (by omega) (by omega)];rfl
theorem Vw(h0:65536<=n)(h:n<16777216):be n=[((n/65536:Nat):Int),((n/256%256:Nat):Int),((n%256:Nat):Int)]:=by
 rw[FM (by omega),Vv (by omega) (by omega),Nat.div_div_eq_div_mul];rfl
def hd(base n:Nat):List Int:=if n<=55 then[((base+n:Nat):Int)]else((base+55+nb n:Nat):Int)::be n
theorem hd_len(base n:Nat):(hd base n).length=1+(if 55<n then nb n else 0):=by
 unfold hd;by_cases h:n<=55
 ·rw[Af h,Ad (by omega)];rfl
 ·rw[Ad h,Af (by omega),AS,JN];omega
def bare(l:Bool)(bs:List Int):Bool:=!l&&(decide (bs.length=1)&&decide (bs.headD 0<128))
def baseOf(l:Bool):Nat:=if l then 192 else 128
mutual
def enc:T->List Int
 | .mk l bs its=>if bare l (bs++encs its)then bs++encs its else hd (baseOf l) (bs++encs its).length++(bs++encs its)
def encs:List T->List Int
 |[]=>[]
 |t::r=>enc t++encs r
end
def bodyOf(t:T):List Int:=t.bs++encs t.its
theorem Ef(l:Bool)(bs:List Int)(its:List T):enc (.mk l bs its)=if bare l (bs++encs its)then bs++encs its else hd (baseOf l) (bs++encs its).length++(bs++encs its):=by rw[enc]
theorem Cq:encs []=[]:=by rw[encs]
theorem C7(t:T)(r:List T):encs (t::r)=enc t++encs r:=by rw[encs]
theorem EJ:∀a b:List T,encs (a++b)=encs a++encs b
 |[],b=>by rw[Cq];rfl
 |t::r,b=>by rw[Cb,C7,C7,EJ r b,AE]
mutual
def form:T->Bool
 | .mk l bs its=>(if l then bs.isEmpty else its.isEmpty)&&forms its
def forms:List T->Bool
 |[]=>true
 |t::r=>form t&&forms r
end
theorem FZ(l:Bool)(bs:List Int)(its:List T):form (.mk l bs its)=((if l then bs.isEmpty else its.isEmpty)&&forms its):=by rw[form]
theorem Ey:forms []=true:=by rw[forms]
theorem IA(t:T)(r:List T):forms (t::r)=(form t&&forms r):=by rw[forms]
mutual
def byt:T->Prop
 | .mk l bs its=>(∀x∈bs,0<=x/\x<256)/\byts its
def byts:List T->Prop
 |[]=>True
 |t::r=>byt t/\byts r
end
theorem Vy(l:Bool)(bs:List Int)(its:List T):byt (.mk l bs its)↔((∀x∈bs,0<=x/\x<256)/\byts its):=by rw[byt]
theorem MY(t:T)(r:List T):byts (t::r)↔(byt t/\byts r):=by rw[byts]
def wt(l:Bool)(bs:List Int)(d:Nat):Nat:=if l&&d==0 then 0 else max bs.length 1
def wrongForm(l:Bool)(bs:List Int)(its:List T):Bool:=(l&&decide (0<bs.length))||(!l&&decide (0<its.length))
mutual
def wk:T->Nat->Nat->Nat×Nat
 | .mk l bs its,d,w=>
  if l&&decide (8<=d)then(w,21)
  else if wrongForm l bs its then(w,23)
  else if 16777215<w+wt l bs d then(w+wt l bs d,20)
  else wks its (d+1) (w+wt l bs d)
def wks:List T->Nat->Nat->Nat×Nat
 |[],d,w=>(w,0)
 |t::r,d,w=>if(wk t d w).2=0 then wks r d (wk t d w).1 else wk t d w
end
theorem IY(l:Bool)(bs:List Int)(its:List T)(d w:Nat):wk (.mk l bs its) d w=if l&&decide (8<=d)then(w,21)else if wrongForm l bs its then(w,23)else if 16777215<w+wt l bs d then(w+wt l bs d,20)else wks its (d+1) (w+wt l bs d):=by rw[wk]
theorem Ej(d w:Nat):wks [] d w=(w,0):=by rw[wks]
theorem Fj(t:T)(r:List T)(d w:Nat):wks (t::r) d w=if(wk t d w).2=0 then wks r d (wk t d w).1 else wk t d w:=by rw[wks]
mutual
def sz:T->Nat
 | .mk l bs its=>if bare l bs then bs.length+szs its else 1+(bs.length+szs its)+(if 55<bs.length+szs its then nb (bs.length+szs its)else 0)
def szs:List T->Nat
 |[]=>0
 |t::r=>sz t+szs r
end
def szOf(l:Bool)(bs:List Int)(n:Nat):Nat:=if bare l bs then n else 1+n+(if 55<n then nb n else 0)
def szb(t:T):Nat:=t.bs.length+szs t.its
theorem Sj(l:Bool)(bs:List Int)(its:List T):sz (.mk l bs its)=szOf l bs (bs.length+szs its):=by rw[sz];rfl
theorem Fw:szs []=0:=by rw[szs]
theorem Gn(t:T)(r:List T):szs (t::r)=sz t+szs r:=by rw[szs]
theorem Lw:∀a b:List T,szs (a++b)=szs a+szs b
 |[],b=>by rw[Fw];simp
 |t::r,b=>by rw[Cb,Gn,Gn,Lw r b];omega
theorem T.ind{p:T->Prop}(h:∀l bs its,(∀t∈its,p t)->p (.mk l bs its)):∀t,p t:=by
 intro t;refine T.rec (motive_1:=p) (motive_2:=λits=>∀t∈its,p t) (λl bs its ih=>h l bs its ih) (λt ht=>by cases ht) (λt r ht hr=>?_) t;intro x hx;rcases Az.1 hx with rfl|hx
 ·exact ht
 ·exact hr x hx
theorem Ed{bs:List Int}{its:List T}(h:form (.mk false bs its)=true):its=[]:=by
 rw[FZ]at h;cases its with
 |nil=>rfl
 |cons t r=>simp at h
theorem EK{bs:List Int}{its:List T}(h:form (.mk true bs its)=true):bs=[]/\forms its=true:=by
 rw[FZ]at h;cases bs with
 |nil=>simpa using h
 |cons t r=>simp at h
theorem Dj:∀{its:List T},forms its=true->∀t∈its,form t=true
 |[],_,t,ht=>by cases ht
 |x::r,h,t,ht=>by
  rw[IA,BJ]at h;rcases Az.1 ht with rfl|ht
  ·exact h.1
  ·exact Dj h.2 t ht
theorem Vz(bs:List Int)(l:Bool)(its:List T)(h:form (.mk l bs its)=true):bare l (bs++encs its)=bare l bs:=by
 cases l with
 |true=>simp[bare]
 |false=>rw[Ed h,Cq,A3]
theorem Sl{its:List T}(h:∀t∈its,sz t=(enc t).length):szs its=(encs its).length:=by
 induction its with
 |nil=>rw[Fw,Cq];rfl
 |cons t r ih=>
  rw[Gn,C7,Ab,h t (BU ..),ih λx hx=>h x (A9 _ hx)]
theorem V0:∀t,form t=true->sz t=(enc t).length:=by
 refine T.ind λl bs its ih h=>?_;have hf:forms its=true:=by
  cases l with
  |true=>exact(EK h).2
  |false=>rw[Ed h,Ey]
 have hs:=Sl (its:=its) λt ht=>ih t ht (Dj hf t ht);rw[Sj,Ef,Vz _ _ _ h,szOf];by_cases hb:bare l bs=true
 ·rw[Af hb,Af hb,hs,Ab]
 ·rw[Ad hb,Ad hb,Ab,hd_len,Ab,hs];omega
theorem IZ{t:T}(h:form t=true):szb t=(bodyOf t).length:=by
 cases t with
 |mk l bs its=>
  have hf:forms its=true:=by
   cases l with
   |true=>exact(EK h).2
   |false=>rw[Ed h,Ey]
  show bs.length+szs its=(bs++encs its).length;rw[Ab,Sl λt ht=>V0 t (Dj hf t ht)]
theorem On:∀{its:List T}{d w:Nat},(wks its d w).2=0->∀t∈its,∃w',(wk t d w').2=0
 |[],_,_,_,t,ht=>by cases ht
 |x::r,d,w,h,t,ht=>by
  rw[Fj]at h;by_cases h0:(wk x d w).2=0
  ·rw[Af h0]at h;rcases Az.1 ht with rfl|ht
   ·exact⟨w,h0⟩
   ·exact On h t ht
  ·rw[Ad h0]at h;exact absurd h h0
theorem Pc{its:List T}(h:∀t∈its,form t=true):forms its=true:=by
 induction its with
 |nil=>exact Ey
 |cons t r ih=>rw[IA,h t (BU ..),ih λx hx=>h x (A9 _ hx)];rfl
theorem Pd{l:Bool}{bs:List Int}{its:List T}(h:(wk (.mk l bs its) d w).2=0):(l=true->d<8)/\wrongForm l bs its=false/\w+wt l bs d<=16777215/\wk (.mk l bs its) d w=wks its (d+1) (w+wt l bs d):=by
 rw[IY]at h⊢;by_cases h1:(l&&decide (8<=d))=true
 ·rw[Af h1]at h;cases h
 ·rw[Ad h1]at h⊢;by_cases h2:wrongForm l bs its=true
  ·rw[Af h2]at h;cases h
  ·rw[Ad h2]at h⊢;by_cases h3:16777215<w+wt l bs d
   ·rw[Af h3]at h;cases h
   ·rw[Ad h3]at h⊢;refine⟨λhl=>?_,by simpa using h2,by omega,rfl⟩;subst hl;simp at h1;omega
theorem EL{l:Bool}{bs:List Int}{its:List T}(h:wrongForm l bs its=false):(if l then bs.isEmpty else its.isEmpty)=true:=by
 cases l with
 |true=>cases bs<;>simp_all [wrongForm]
 |false=>cases its<;>simp_all [wrongForm]
theorem Ja:∀t,∀d w,(wk t d w).2=0->form t=true:=by
 refine T.ind λl bs its ih d w h=>?_;obtain⟨_,h2,_,h4⟩:=Pd h;rw[h4]at h;rw[FZ,EL h2,E7];exact Pc λt ht=>let⟨w',hw⟩:=On h t ht;ih t ht _ _ hw
theorem V1{its:List T}(ih:∀t∈its,∀d w,0<d->(wk t d w).2=0->w<=(wk t d w).1/\(wk t d w).1<=16777215+w/\sz t<=10*((wk t d w).1-w)/\(w<=16777215->(wk t d w).1<=16777215)):
 ∀d w,0<d->(wks its d w).2=0->w<=(wks its d w).1/\szs its<=10*((wks its d w).1-w)/\(w<=16777215->(wks its d w).1<=16777215):=by
 induction its with
 |nil=>intro d w _ _;rw[Ej,Fw];exact⟨Aa _,by simp,λh=>h⟩
 |cons t r ihr=>
  intro d w hd h;rw[Fj]at h⊢;by_cases h0:(wk t d w).2=0
  ·rw[Af h0]at h⊢;obtain⟨a1,_,a2,a3⟩:=ih t (BU ..) d w hd h0;obtain⟨b1,b2,b3⟩:=ihr (λx hx=>ih x (A9 _ hx)) d _ hd h;rw[Gn];exact⟨by omega,by omega,λhw=>b3 (a3 hw)⟩
  ·rw[Ad h0]at h;exact absurd h h0
theorem Z7{l:Bool}{bs:List Int}(h:0<d):wt l bs d=max bs.length 1:=by
 unfold wt;rw[Ad];simp;omega
theorem Sm(l:Bool)(bs:List Int)(n:Nat)(h:n<4294967296):szOf l bs n<=n+5:=by
 unfold szOf;split
 ·omega
 ·split
  ·have:=Zm h;omega
  ·omega
theorem Zo:∀t,∀d w,0<d->(wk t d w).2=0->w<=(wk t d w).1/\(wk t d w).1<=16777215+w/\sz t<=10*((wk t d w).1-w)/\(w<=16777215->(wk t d w).1<=16777215):=by
 refine T.ind λl bs its ih d w hd h=>?_;obtain⟨_,h2,h3,h4⟩:=Pd h;rw[h4]at h⊢;obtain⟨b1,b2,b3⟩:=V1 ih (d+1) _ (by omega) h;have b4:=b3 h3;rw[Z7 hd]at*;have hf:=EL h2;rw[Sj];cases l with
 |true=>
  have:bs=[]:=by simpa using hf
  subst this;have hx:(([]:List Int).length+szs its)=szs its:=by simp
  rw[hx];have hl:max ([]:List Int).length 1=1:=by simp
  rw[hl]at b1 b2 b3 b4 h3⊢;have:=Sm true [] (szs its) (by omega);exact⟨by omega,by omega,by omega,λ_=>b4⟩
 |false=>
  have:its=[]:=by simpa using hf
  subst this;rw[Fw];have:=Sm false bs bs.length (by omega);rw[Ej]at*;exact⟨by show w<=w+_;omega,by show w+_<=_;omega,by show szOf false bs bs.length<=10*(w+max bs.length 1-w);omega,λ_=>h3⟩
theorem IB:∀(a b:List T)(d w:Nat),wks (a++b) d w=if(wks a d w).2=0 then wks b d (wks a d w).1 else wks a d w
 |[],b,d,w=>by rw[Ej];rfl
 |t::r,b,d,w=>by
  rw[Cb,Fj,Fj];by_cases h:(wk t d w).2=0
  ·rw[Af h,Af h,IB r b]
  ·rw[Ad h,Ad h,Ad h]
theorem DK{l:List α}{t:α}(h:l[k]?=some t):l.take (k+1)=l.take k++[t]:=by
 rw[BQ,h];rfl
theorem MZ{l:List α}{t:α}(h:l[k]?=some t):l=l.take k++t::l.drop (k+1):=by
 obtain⟨hk,e⟩:=Aw.1 h;rw[<-e];simp
theorem Lx{its:List T}{t:T}(h:its[k]?=some t)(h0:wks (its.take k) d w=(W,0))(h1:(wk t d W).2=0):wks (its.take (k+1)) d w=((wk t d W).1,0):=by
 rw[DK h,IB,h0,Af rfl,Fj,Af h1,Ej]
theorem Ly{its:List T}{t:T}(h:its[k]?=some t)(h0:wks (its.take k) d w=(W,0))(h1:(wk t d W).2≠0):wks its d w=wk t d W:=by
 rw[MZ h,IB,h0,Af rfl,Fj,Ad h1]
theorem V3{its:List T}{t:T}(h:its[k]?=some t):szs (its.take (k+1))=szs (its.take k)+sz t:=by
 rw[DK h,Lw,Gn,Fw];rfl
theorem JO{its:List T}(hd:0<d)(hw:w<=16777215)(h:wks its d w=(W,0)):w<=W/\W<=16777215/\szs its<=10*(W-w):=by
 obtain⟨h1,h2,h3⟩:=V1 (its:=its) (λt _=>Zo t) d w hd (by rw[h]);rw[h]at h1 h2 h3;exact⟨h1,h3 hw,h2⟩
theorem Lz{t:T}(hd:0<d)(hw:w<=16777215)(h:(wk t d w).2=0):w<=(wk t d w).1/\(wk t d w).1<=16777215/\sz t<=10*((wk t d w).1-w):=by
 obtain⟨h1,_,h2,h3⟩:=Zo t d w hd h;exact⟨h1,h3 hw,h2⟩
theorem KT(l:Bool)(bs:List Int)(n:Nat):n<=szOf l bs n:=by unfold szOf;split<;>omega
theorem V5(t:T):sz t=szOf t.l t.bs (szb t):=by
 cases t with
 |mk l bs its=>exact Sj l bs its
def val(b:List Int):Nat:=b.foldl (λn x=>n*256+x.toNat) 0
theorem Jb(b:List Int)(x:Int):val (b++[x])=val b*256+x.toNat:=by simp[val]
theorem V6:∀(k:Nat)(b:List Int),b.length=k->(∀x∈b,0<=x/\x<256)->val b<256^k
 |0,b,h,_=>by rw[Ar h];decide
 |k+1,b,h,hb=>by
  obtain⟨i,x,rfl⟩:∃i x,b=i++[x]:=⟨b.dropLast,b.getLast (by intro hh;rw[hh]at h;simp at h),(List.dropLast_concat_getLast _).symm⟩;rw[Jb];have h1:=V6 k i (by simp at h;omega) (λy hy=>hb y (Df _ hy));have h2:=hb x (by simp);rw[Nat.pow_succ];omega
theorem DF(hb:∀x∈b,0<=x/\x<256)(hj:j<=b.length)(h3:j<=3):val (b.take j)<256^j/\256^j<=16777216:=by
 refine⟨V6 j _ (by rw[Ao];omega) (λx hx=>hb x (Bi hx)),?_⟩;have:j=0∨j=1∨j=2∨j=3:=by omega
 rcases this with rfl|rfl|rfl|rfl<;>decide
theorem L0(hj:j<b.length):val (b.take (j+1))=val (b.take j)*256+(b.getD j 0).toNat:=by
 rw[DK (Ac hj),Jb];simp[Ac hj]
def lenIn(b:List Int)(c:Nat):Nat×Nat:=
 if 3<c then(0,23)else if b.length<c then(0,22)else if b.headD 0=0∨val (b.take c)<=55 then(0,23)else(val (b.take c),0)
inductive HR where
 |bad (e:Nat)
 |ok (f t:Nat)
def nOf(c:Int):Nat:=(c-(if 192<=c then 192 else 128)).toNat
def hdr(deep:Bool)(b:List Int):HR:=
 match b with
 |[]=> .bad 22
 |c::r=>
  if 192<=c/\deep=true then .bad 21
  else if c<128 then .ok 0 1
  else if 55<nOf c then
   if(lenIn r (nOf c-55)).2≠0 then .bad (lenIn r (nOf c-55)).2
   else if b.length-(1+(nOf c-55))<(lenIn r (nOf c-55)).1 then .bad 22
   else .ok (1+(nOf c-55)) (1+(nOf c-55)+(lenIn r (nOf c-55)).1)
  else if b.length-1<nOf c then .bad 22 else .ok 1 (1+nOf c)
inductive R where
 |bad (e:Nat)
 |ok (t:T) (n:Nat)
inductive RL where
 |bad (e:Nat)
 |ok (ts:List T)
def rdAll(f:List Int->R):Nat->List Int->RL
 |_,[]=> .ok []
 |0,_::_=> .bad 0
 |n+1,x::b=>match f (x::b)with
  | .bad e=> .bad e
  | .ok t m=>match rdAll f n ((x::b).drop m)with
   | .bad e=> .bad e
   | .ok ts=> .ok (t::ts)
def rd1(g:List Int->R)(deep:Bool)(b:List Int):R:=
 match hdr deep b with
 | .bad e=> .bad e
 | .ok f t=>
  if b.headD 0<192 then(if f=1/\t=2/\b.getD 1 0<128 then .bad 23 else .ok (.mk false ((b.take t).drop f) []) t)
  else match rdAll g ((b.take t).drop f).length ((b.take t).drop f)with
   | .bad e=> .bad e
   | .ok ts=> .ok (.mk true [] ts) t
def rd:Nat->List Int->R
 |0=>rd1 (λ_=> .bad 21) true
 |k+1=>rd1 (rd k) false
theorem GR{c:Nat}(h:(lenIn b c).2=0):c<=3/\c<=b.length/\b.headD 0≠0/\55<val (b.take c)/\(lenIn b c).1=val (b.take c):=by
 unfold lenIn at*;by_cases h1:3<c
 ·rw[Af h1]at h;cases h
 ·rw[Ad h1]at h⊢;by_cases h2:b.length<c
  ·rw[Af h2]at h;cases h
  ·rw[Ad h2]at h⊢;by_cases h3:b.headD 0=0∨val (b.take c)<=55
   ·rw[Af h3]at h;cases h
   ·rw[Ad h3];exact⟨by omega,by omega,λh=>h3 (.inl h),by omega,rfl⟩
theorem L3{f t:Nat}(h:hdr deep b= .ok f t):f<=t/\t<=b.length/\1<=t/\0<b.length:=by
 unfold hdr at h;split at h
 ·cases h
 ·rename_i c r;split at h
  ·cases h
  ·split at h
   ·cases h;simp
   ·split at h
    ·split at h
     ·cases h
     ·rename_i h3 h4;have:=GR (Decidable.not_not.1 h4);split at h
      ·cases h
      ·cases h;simp only[AS]at*;omega
    ·split at h
     ·cases h
     ·cases h;simp only[AS]at*;omega
theorem V7{g:List Int->R}{t:T}(h:rd1 g deep b= .ok t n):1<=n/\n<=b.length:=by
 unfold rd1 at h;split at h
 ·cases h
 ·rename_i f t' hh;have:=L3 hh;split at h
  ·split at h
   ·cases h
   ·cases h;omega
  ·split at h
   ·cases h
   ·cases h;omega
theorem Pe{t:T}(h:rd k b= .ok t n):1<=n/\n<=b.length:=by
 cases k with
 |zero=>exact V7 h
 |succ k=>exact V7 h
theorem EW(f:List Int->R)(n:Nat):rdAll f n []= .ok []:=by cases n<;>rfl
theorem FB{f:List Int->R}{e:Nat}(hb:b≠[])(h:f b= .bad e):rdAll f (n+1) b= .bad e:=by
 cases b with
 |nil=>exact absurd rfl hb
 |cons x b=>rw[rdAll,h]
theorem Gq{f:List Int->R}{m:Nat}{t:T}(hb:b≠[])(h:f b= .ok t m):rdAll f (n+1) b=match rdAll f n (b.drop m)with| .bad e=> .bad e| .ok ts=> .ok (t::ts):=by
 cases b with
 |nil=>exact absurd rfl hb
 |cons x b=>rw[rdAll,h]
theorem L4{f:List Int->R}(hf:∀b t m,f b= .ok t m->1<=m):∀n m b,b.length<=n->b.length<=m->rdAll f n b=rdAll f m b
 |_,_,[],_,_=>by rw[EW,EW]
 |n+1,m+1,x::b,h1,h2=>by
  cases h:f (x::b)with
  |bad e=>rw[FB (by simp) h,FB (by simp) h]
  |ok t k=>
   have hk:=hf _ _ _ h;rw[Gq (by simp) h,Gq (by simp) h,L4 hf n m ((x::b).drop k) (by simp at*;omega) (by simp at*;omega)]
end Go.Proofs.YtalhnnjpjaeakaaGreat
namespace Go.Proofs.YtalhnnjpjaeakaaGreat
variable {w : World} {a : Option Addr} {k g : Nat}
structure V where
 l:Bool
 ba:Option Addr
 bn:Nat
 bc:Nat
 ia:Option Addr
 m:Nat
 ic:Nat
def V.v(x:V):Value:= .agg #[.bool x.l, .slice x.ba x.bn x.bc, .slice x.ia x.m x.ic]
mutual
def Lies(w:World):T->V->Prop
 | .mk l bs its,x=>x.l=l/\Ag w x.ba x.bn x.bc bs/\x.m=its.length/\x.m<=x.ic/\x.ic<=maxLen/\(x.bn<=140737488351232/\x.m<=140737488351232)/\LiesAll w its x.ia 0
def LiesAll(w:World):List T->Option Addr->Nat->Prop
 |[],_,_=>True
 |t::r,a,k=>(∃g off y,a=some ⟨g,off,none⟩/\w.cell? ⟨g,off+k*3,none⟩=some (.bool y.l)/\w.cell? ⟨g,off+k*3+1,none⟩=some (.slice y.ba y.bn y.bc)/\w.cell? ⟨g,off+k*3+2,none⟩=some (.slice y.ia y.m y.ic)/\Lies w t y)/\LiesAll w r a (k+1)
end
theorem lies_eq{l:Bool}{bs:List Int}{its:List T}{x:V}:Lies w (.mk l bs its) x↔(x.l=l/\Ag w x.ba x.bn x.bc bs/\x.m=its.length/\x.m<=x.ic/\x.ic<=maxLen/\(x.bn<=140737488351232/\x.m<=140737488351232)/\LiesAll w its x.ia 0):=by rw[Lies]
theorem liesAll_cons{t:T}{r:List T}:LiesAll w (t::r) a k↔((∃g off y,a=some ⟨g,off,none⟩/\w.cell? ⟨g,off+k*3,none⟩=some (.bool y.l)/\w.cell? ⟨g,off+k*3+1,none⟩=some (.slice y.ba y.bn y.bc)/\w.cell? ⟨g,off+k*3+2,none⟩=some (.slice y.ia y.m y.ic)/\Lies w t y)/\LiesAll w r a (k+1)):=by rw[LiesAll]
theorem Dw:LiesAll w [] a k:=by rw[LiesAll];trivial
structure At(w:World)(a:Option Addr)(k:Nat)(t:T)(g off:Nat)(y:V):Prop where
 ha:a=some ⟨g,off,none⟩
 c0:w.cell? ⟨g,off+k*3,none⟩=some (.bool y.l)
 c1:w.cell? ⟨g,off+k*3+1,none⟩=some (.slice y.ba y.bn y.bc)
 c2:w.cell? ⟨g,off+k*3+2,none⟩=some (.slice y.ia y.m y.ic)
 li:Lies w t y
theorem DX{w:World}{a:Option Addr}:∀{its:List T}{k:Nat},LiesAll w its a k->∀i,∀t,its[i]?=some t->∃g off y,At w a (k+i) t g off y
 |[],k,_,i,t,h=>by simp at h
 |t::r,k,hl,i,u,h=>by
  obtain⟨⟨g,off,y,h1,h2,h3,h4,h5⟩,hr⟩:=liesAll_cons.1 hl;cases i with
  |zero=>
   simp at h;subst h;exact⟨g,off,y,h1,h2,h3,h4,h5⟩
  |succ i=>
   simp at h;obtain⟨g',off',y',h'⟩:=DX hr i u h;rw[show k+1+i=k+(i+1)from by omega]at h';exact⟨g',off',y',h'⟩
theorem Ci{w':World}(hb:Below w.heap.size w w'):∀t,∀x,Lies w t x->Lies w' t x:=by
 refine T.ind λl bs its ih x h=>?_;obtain⟨h1,h2,h3,h4,h5,h7,h6⟩:=lies_eq.1 h;refine lies_eq.2 ⟨h1,h2.at hb,h3,h4,h5,h7,?_⟩;clear h1 h2 h3 h4 h5 h7 h;generalize x.ia=a at h6;generalize 0=k at h6
 induction its generalizing k with
 |nil=>exact Dw
 |cons t r ihr=>
  obtain⟨⟨g,off,y,h1,h2,h3,h4,h5⟩,hr⟩:=liesAll_cons.1 h6;refine liesAll_cons.2 ⟨⟨g,off,y,h1,?_,?_,?_,ih t (BU ..) y h5⟩,ihr (λu hu=>ih u (A9 _ hu)) _ hr⟩
  ·exact(hb.cell (p:=⟨g,off+k*3,none⟩) (Aj h2)).trans h2
  ·exact(hb.cell (p:=⟨g,off+k*3+1,none⟩) (Aj h3)).trans h3
  ·exact(hb.cell (p:=⟨g,off+k*3+2,none⟩) (Aj h4)).trans h4
theorem V8:∀t,∀x,Lies w t x->byt t:=by
 refine T.ind λl bs its ih x h=>?_;obtain⟨h1,h2,h3,h4,h5,h7,h6⟩:=lies_eq.1 h;refine(Vy l bs its).2 ⟨h2.b,?_⟩;clear h1 h2 h3 h4 h5 h7 h;generalize x.ia=a at h6;generalize 0=k at h6
 induction its generalizing k with
 |nil=>rw[byts];trivial
 |cons t r ihr=>
  obtain⟨⟨g,off,y,h1,h2,h3,h4,h5⟩,hr⟩:=liesAll_cons.1 h6;exact(MY t r).2 ⟨ih t (BU ..) y h5,ihr (λu hu=>ih u (A9 _ hu)) _ hr⟩
theorem ag_head{n c:Nat}{bs:List Int}(h:Ag w a n c bs)(h1:0<n):∃g off,a=some ⟨g,off,none⟩/\n<=c/\c<=maxLen/\∀j,j<n->w.cell? ⟨g,off+j,none⟩=some (.int .u8 (bs.getD j 0)):=by
 rcases h.i with⟨h0,_⟩|⟨g,off,h2,h3,h4,h5,h6,h7⟩
 ·omega
 ·exact⟨g,off,h2,h5,h6,λj hj=>h7 j (by omega)⟩
theorem cell_alloc{off:Nat}{v:Value}(h:w.cell? ⟨g,off,none⟩=some v):∀o,(w.alloc o).cell? ⟨g,off,none⟩=some v:=λo=>(Aq (w:=w) (Au w _ _ (Aj h))).trans h
theorem Pf(l:Bool)(ba:Option Addr)(bn bc:Nat)(ia:Option Addr)(m ic:Nat)(bs:List Int)(w:World)(h:Ag w ba bn bc bs):
 Calls prog 112 #[.agg #[.bool l, .slice ba bn bc, .slice ia m ic]] w λe w'=>e= .returned (.bool (bare l bs))/\Below w.heap.size w w':=by
 cases l with
 |true=>
  go_enter func112,ntmps112;go_wp2_with fail;go_ret;exact⟨by simp[bare],(Ak _ _).alloc (Aa _) _⟩
 |false=>
  by_cases h1:bn=1
  ·subst h1;obtain⟨g,off,rfl,hc1,hc2,hc⟩:=ag_head h (by omega);have hc:=hc 0 (by omega);have hl:=h.l
   match bs,hl with
   |[x],_=>
    simp at hc;have hx:=h.b x (by simp);have hc2:=cell_alloc hc;clear h;go_enter func112,ntmps112;go_wp2_with fail;go_ret;exact⟨by simp[bare],(Ak _ _).alloc (Aa _) _⟩
  ·have hl:=h.l;have hb:(bn==1)=false:=(by simp[h1]);have hbi:((bn:Int)==1)=false:=(by simp;omega);clear h;go_enter func112,ntmps112;go_wp2_with fail;go_ret;exact⟨by simp[bare,hl,h1],(Ak _ _).alloc (Aa _) _⟩
theorem Fx(l:Bool)(ba:Option Addr)(bn bc:Nat)(ia:Option Addr)(m ic:Nat)(bs:List Int)(d:Nat)(w:World)(hl:bs.length=bn)(hn:bn<=maxLen):
 Calls prog 136 #[.agg #[.bool l, .slice ba bn bc, .slice ia m ic], .int .i64 d] w λe w'=>e= .returned (.int .i64 (wt l bs d:Nat))/\Below w.heap.size w w':=by
 unfold maxLen at hn;cases l with
 |true=>
  by_cases hd:d=0
  ·subst hd;go_enter func136,ntmps136;go_wp2_with fail;go_ret;exact⟨by simp[wt],(Ak _ _).alloc (Aa _) _⟩
  ·have hd2:((d:Int)==0)=false:=(by simp;omega);go_enter func136,ntmps136;go_wp2_with fail
   all_goals
    go_ret;refine⟨?_,(Ak _ _).alloc (Aa _) _⟩;simp[wt,hd,hl];omega
 |false=>
  go_enter func136,ntmps136;go_wp2_with fail
  all_goals
   go_ret;refine⟨?_,(Ak _ _).alloc (Aa _) _⟩;simp[wt,hl];omega
theorem L5(l:Bool)(ba:Option Addr)(bn bc:Nat)(ia:Option Addr)(m ic:Nat)(bs:List Int)(n:Nat)(w:World)(h:Ag w ba bn bc bs)(hn:n<1000000000):
 Calls prog 111 #[.agg #[.bool l, .slice ba bn bc, .slice ia m ic], .int .i64 n] w λe w'=>e= .returned (.int .i64 (szOf l bs n:Nat))/\Below w.heap.size w w':=by
 have HS:Hid (szOf l bs n=if bare l bs then n else 1+n+(if 55<n then nb n else 0)):=rfl;generalize szOf l bs n=r at HS⊢;go_enter func111,ntmps111;go_wp2_with fail;refine(Pf l ba bn bc ia m ic bs _ (h.at ((Ak _ _).alloc (Aa _) _))).mono ?_;rintro e w1⟨rfl,hb⟩;have hb2:=((Ak w.heap.size w).alloc (Aa _) (.cells #[.bool l, .slice ba bn bc, .slice ia m ic] 110)).trans (hb.mono (by simp));clear hb h;by_cases hbr:bare l bs=true
 ·have HR:=HS.out;rw[Af hbr]at HR;rw[hbr];subst HR;go_wp2_with fail;go_ret;exact⟨rfl,hb2⟩
 ·have HR:=HS.out;have hbr2:bare l bs=false:=by simpa using hbr
  rw[Ad hbr]at HR;rw[hbr2];by_cases hn5:55<n
  ·rw[Af hn5]at HR;have hn6:(55:Int)<n:=(by omega);have HH:=Xba HR;clear HR HS;go_wp2_with fail
   go_loop [5,6] (λs q=>∃sn qn:Nat,s= .int .i64 sn/\q= .int .i64 qn/\sn+nb qn=r/\qn<1000000000/\r<1000000010) (λs q=>(intOf q).toNat)
   case atStart=>exact⟨1+n,n,by simp,rfl,by rw[HH.out],hn,by rw[HH.out];have:=Zm (n:=n) (by omega);omega⟩
   case round=>
    obtain⟨sn,qn,rfl,rfl,hs,hq,hr⟩:=hrel;have HS:=Xba hs;clear hs;by_cases h0:qn=0
    ·subst h0;go_wp2_with fail;go_ret;have:=HS.out;rw[Ij]at this;exact⟨by rw[<-this];rfl,hb2⟩
    ·have hq0:(0:Int)<qn:=(by omega);have hsn:sn<1000000010:=(by have:=HS.out;omega);go_wp2_with fail
     go_round
     case rel=>exact⟨sn+1,qn/256,by simp,by simp,by have:=HS.out;rw[GQ (by omega)]at this;omega,by omega,hr⟩
     case measure=>simp[intOf];omega
  ·rw[Ad hn5]at HR;have hn6:¬(55:Int)<n:=(by omega);subst HR;go_wp2_with fail;go_ret;exact⟨by simp,hb2⟩
def BodyPost(t:T)(d W g:Nat)(w:World):Ending->World->Prop:=λe w'=>
 Touch g w w'/\(((wk t d W).2=0/\e= .returned (.tuple #[.int .i64 (szb t), .int .i64 0])/\w'.heap[g]?=some (.cells #[.int .i64 ((wk t d W).1:Nat)] 163))∨((wk t d W).2≠0/\e= .returned (.tuple #[.int .i64 0, .int .i64 ((wk t d W).2:Nat)])))
theorem Jc{w1:World}{W wx d:Nat}{l:Bool}{bs:List Int}{X:Array Value}(hc:w.heap[g]?=some (.cells #[.int .i64 W] 163))(hx:wt l bs d=wx)(hle:W+wx<=150000000000000)
 (hb:Below (w.alloc (.cells X 110)).drew.heap.size (w.alloc (.cells X 110)).drew w1):
 Touch g w (w1.setCell ⟨g,0,none⟩ (.int .i64 (IntKind.i64.wrap ((W:Int)+(wt l bs d:Nat)))))/\(w1.setCell ⟨g,0,none⟩ (.int .i64 (IntKind.i64.wrap ((W:Int)+(wt l bs d:Nat))))).heap[g]?=some (.cells #[.int .i64 (W+wx:Nat)] 163)/\
  (w1.setCell ⟨g,0,none⟩ (.int .i64 (IntKind.i64.wrap ((W:Int)+(wt l bs d:Nat))))).heap[w.heap.size]?=some (.cells X 110):=by
 subst hx;have hg:=lt_of_get hc;have e:IntKind.i64.wrap ((W:Int)+(wt l bs d:Nat))=((W+wt l bs d:Nat):Int):=by rw[IntKind.wrap_i64];omega
 have hb2:Below w.heap.size w w1:=(((Ak w.heap.size w).alloc (Aa _) (.cells X 110)).drew).trans (hb.mono (by simp));have h1:w1.heap[g]?=some (.cells #[.int .i64 W] 163):=(hb2.block g hg).trans hc;have h2:w1.heap[w.heap.size]?=some (.cells X 110):=(hb.block _ (by simp)).trans (Ai w _);rw[e];refine⟨(Touch.of_below hb2).trans (Touch.setCell _ _ _ _),AO w1 g 0 _ _ _ h1,(A8 _ _ _ _ (show w.heap.size≠g from by omega)).trans h2⟩
theorem V9(l:Bool)(bs:List Int)(its:List T)(x:V)(d W g:Nat)(w0 w:World)(hli:Lies w0 (.mk l bs its) x)(hbel:Below w0.heap.size w0 w)(hg:w0.heap.size<=g)(hcell:w.heap[g]?=some (.cells #[.int .i64 W] 163))(hW:W<=16777215)(hd:d<=8)(hbad:(l=true/\d=8)∨wrongForm l bs its=true∨16777215<W+wt l bs d):
 Calls prog 110 #[.pointer (some ⟨g,0,none⟩), .agg #[.bool x.l, .slice x.ba x.bn x.bc, .slice x.ia x.m x.ic], .int .i64 d] w (BodyPost (.mk l bs its) d W g w):=by
 obtain⟨l',ba,bn,bc,ia,m,ic⟩:=x;obtain⟨h1,h2,h3,h4,h5,⟨h7,h8⟩,h6⟩:=lies_eq.1 hli;simp only at h1 h2 h3 h4 h5 h6 h7 h8⊢;subst h1;have hgl:=lt_of_get hcell;have hbn:bn<=maxLen:=by unfold maxLen;omega
 have hic:ic<=2^63-1:=h5;have hm:m<=2^63-1:=by omega
 have hbn2:bn<=2^63-1:=hbn;have c0:∀o,(w.alloc o).cell? ⟨g,0,none⟩=some (.int .i64 W):=cell_alloc (by rw[Ae _ _ _ _ _ _ hcell];rfl);have f0:∀o,(w.alloc o).frozen? ⟨g,0,none⟩=false:=λo=>AL _ _ _ _ _ ((Au w o _ hgl).trans hcell);have HW:=IY l' bs its d W;by_cases hdeep:l'=true/\d=8
 ·obtain⟨rfl,rfl⟩:=hdeep;have e1:wk (.mk true bs its) 8 W=(W,21):=by rw[HW];rfl
  go_enter func110,ntmps110;go_wp2_with fail;go_ret2;exact⟨Touch.of_below ((Ak _ _).alloc (Aa _) _), .inr (by rw[e1];exact⟨E3 _,rfl⟩)⟩
 have hdp:(l'&&decide (8<=d))=false:=by
  cases l' with
  |false=>rfl
  |true=>simp at hdeep⊢;omega
 rw[Ad (by rw[hdp];decide)]at HW;by_cases hwf:wrongForm l' bs its=true
 ·rw[Af hwf]at HW;cases l' with
  |true=>
   have hb0:(0:Int)<bn:=(by simp[wrongForm]at hwf;have:=h2.l;omega);have hd8:((d:Int)==8)=false:=(by simp;simp at hdeep;omega);go_enter func110,ntmps110;go_wp2_with fail;go_ret2;exact⟨Touch.of_below ((Ak _ _).alloc (Aa _) _), .inr (by rw[HW];exact⟨E3 _,rfl⟩)⟩
  |false=>
   have hb0:(0:Int)<m:=(by simp[wrongForm]at hwf;omega);go_enter func110,ntmps110;go_wp2_with fail;go_ret2;exact⟨Touch.of_below ((Ak _ _).alloc (Aa _) _), .inr (by rw[HW];exact⟨E3 _,rfl⟩)⟩
 rw[Ad hwf]at HW;have hwf2:((l'=true->bn=0)/\(l'=false->m=0)):=by
  simp[wrongForm]at hwf;have:=h2.l;constructor
  ·intro hl;have:=hwf.1 hl;subst this;simp at*;omega
  ·intro hl;have:=hwf.2 hl;subst this;simp at*;omega
 have hwt:wt l' bs d<=140737488351232:=by unfold wt;rw[h2.l];split<;>omega
 have HL:=Xba h2.l;have H3:=Xba h3;have H6:=Xba h6;have HWW:=Xba HW;have HWF:=Xba hwf2;have HNW:=Xba hwf;have hd8:l'=true->((d:Int)==8)=false:=λhl=>by subst hl;simp;simp at hdeep;omega
 have HD:=Xba hd8;have HCE:=Xba hcell;clear h3 h6 HW hwf2 hwf hd8 hdp hli hcell h2;obtain⟨wx,hwx⟩:∃wx,wt l' bs d=wx:=⟨_,rfl⟩;have HWX:=Xba hwx;rw[hwx]at hwt HWW;clear hwx;have hwle:W+wx<=150000000000000:=by omega
 have hlong:16777215<W+wx:=by
  rcases hbad with h|h|h
  ·exact absurd h hdeep
  ·exact absurd h HNW.out
  ·rw[HWX.out]at h;exact h
 clear hdeep hbad
 ·have hl2:(16777215:Int)<((W+wx:Nat):Int):=by omega
  have hfin:wk (T.mk l' bs its) d W=(W+wx,20):=by rw[HWW.out,Af hlong]
  have HF:=Xba hfin;clear hfin;cases l' with
  |true=>
   have hb0:bn=0:=HWF.out.1 rfl;subst hb0;have hd8:=HD.out rfl;go_enter func110,ntmps110;go_wp2_with fail
   go_cut [] (λv=>Touch g w v/\v.heap[g]?=some (.cells #[.int .i64 (W+wx:Nat)] 163)/\v.heap[w.heap.size]?=some (.cells #[.bool true, .slice ba 0 bc, .slice ia m ic] 110))
   case first=>
    go_region_with (first|(go_at_call 136;refine(Fx true ba _ bc ia m ic bs d _ HL.out hbn).mono ?_;rintro e w1⟨rfl,hb1⟩;have cg:=(hb1.cell (p:=⟨g,0,none⟩) (Aj (c0 _))).trans (c0 _);have fg:=(hb1.frozen (p:=⟨g,0,none⟩) (Aj (c0 _))).trans (f0 _)))
    all_goals
     go_wp2_with fail
     go_meet
     case rel=>exact Jc HCE.out HWX.out hwle hb1
   case rest=>
    obtain⟨ht,hc,hx⟩:=hcut;have hcg:wc.cell? ⟨g,0,none⟩=some (.int .i64 (W+wx:Nat)):=(by rw[Ae _ _ _ _ _ _ hc];rfl);have hx0:wc.cell? ⟨w.heap.size,0,none⟩=some (.bool true):=(by rw[Ae _ _ _ _ _ _ hx];rfl);have hx1:wc.cell? ⟨w.heap.size,1,none⟩=some (.slice ba 0 bc):=(by rw[Ae _ _ _ _ _ _ hx];rfl);have hx2:wc.cell? ⟨w.heap.size,2,none⟩=some (.slice ia m ic):=(by rw[Ae _ _ _ _ _ _ hx];rfl);go_wp2_with fail;go_ret2;exact⟨ht, .inr (by rw[HF.out];exact⟨E3 _,rfl⟩)⟩
  |false=>
   have hm0:m=0:=HWF.out.2 rfl;subst hm0;go_enter func110,ntmps110;go_wp2_with fail
   go_cut [] (λv=>Touch g w v/\v.heap[g]?=some (.cells #[.int .i64 (W+wx:Nat)] 163)/\v.heap[w.heap.size]?=some (.cells #[.bool false, .slice ba bn bc, .slice ia 0 ic] 110))
   case first=>
    go_region_with (first|(go_at_call 136;refine(Fx false ba _ bc ia 0 ic bs d _ HL.out hbn).mono ?_;rintro e w1⟨rfl,hb1⟩;have cg:=(hb1.cell (p:=⟨g,0,none⟩) (Aj (c0 _))).trans (c0 _);have fg:=(hb1.frozen (p:=⟨g,0,none⟩) (Aj (c0 _))).trans (f0 _)))
    all_goals
     go_wp2_with fail
     go_meet
     case rel=>exact Jc HCE.out HWX.out hwle hb1
   case rest=>
    obtain⟨ht,hc,hx⟩:=hcut;have hcg:wc.cell? ⟨g,0,none⟩=some (.int .i64 (W+wx:Nat)):=(by rw[Ae _ _ _ _ _ _ hc];rfl);have hx0:wc.cell? ⟨w.heap.size,0,none⟩=some (.bool false):=(by rw[Ae _ _ _ _ _ _ hx];rfl);have hx1:wc.cell? ⟨w.heap.size,1,none⟩=some (.slice ba bn bc):=(by rw[Ae _ _ _ _ _ _ hx];rfl);have hx2:wc.cell? ⟨w.heap.size,2,none⟩=some (.slice ia 0 ic):=(by rw[Ae _ _ _ _ _ _ hx];rfl);go_wp2_with fail;go_ret2;exact⟨ht, .inr (by rw[HF.out];exact⟨E3 _,rfl⟩)⟩
theorem T6(bs:List Int)(its:List T)(x:V)(d W g:Nat)(w0 w:World)(hli:Lies w0 (.mk false bs its) x)(hbel:Below w0.heap.size w0 w)(hg:w0.heap.size<=g)(hcell:w.heap[g]?=some (.cells #[.int .i64 W] 163))(hW:W<=16777215)(hd:d<=8)
 (hdeep:¬(false=true/\d=8)) (hwf:wrongForm false bs its=false) (hlong:W+wt false bs d<=16777215):
 Calls prog 110 #[.pointer (some ⟨g,0,none⟩), .agg #[.bool x.l, .slice x.ba x.bn x.bc, .slice x.ia x.m x.ic], .int .i64 d] w (BodyPost (.mk false bs its) d W g w):=by
 obtain⟨l',ba,bn,bc,ia,m,ic⟩:=x;obtain⟨h1,h2,h3,h4,h5,⟨h7,h8⟩,h6⟩:=lies_eq.1 hli;simp only at h1 h2 h3 h4 h5 h6 h7 h8⊢;subst h1;have hgl:=lt_of_get hcell;have hbn:bn<=maxLen:=by unfold maxLen;omega
 have hic:ic<=2^63-1:=h5;have hm:m<=2^63-1:=by omega
 have hbn2:bn<=2^63-1:=hbn;have c0:∀o,(w.alloc o).cell? ⟨g,0,none⟩=some (.int .i64 W):=cell_alloc (by rw[Ae _ _ _ _ _ _ hcell];rfl);have f0:∀o,(w.alloc o).frozen? ⟨g,0,none⟩=false:=λo=>AL _ _ _ _ _ ((Au w o _ hgl).trans hcell);have HL:=Xba h2.l;have H3:=Xba h3;have H6:=Xba h6;have HCE:=Xba hcell;obtain⟨wx,hwx⟩:∃wx,wt false bs d=wx:=⟨_,rfl⟩;have HWX:=Xba hwx;rw[hwx]at hlong;have hwle:W+wx<=150000000000000:=by omega
 have hl2:¬(16777215:Int)<((W+wx:Nat):Int):=by omega
 have hW0:W+wx<=16777215:=hlong;have hfin:wk (T.mk false bs its) d W=wks its (d+1) (W+wx):=by
  rw[IY,Ad (by simp),Ad (by rw[hwf];decide),hwx,Ad (by omega)]
 have HF:=Xba hfin;have hm0:m=0:=by rw[h3];simp[wrongForm]at hwf;rw[hwf];rfl
 subst hm0;have hits:its=[]:=Ar h3.symm;subst hits;clear hfin hwx hwf h3 h6 hcell hli h2 H3 H6;go_enter func110,ntmps110;go_wp2_with fail
 go_cut [] (λv=>Touch g w v/\v.heap[g]?=some (.cells #[.int .i64 (W+wx:Nat)] 163)/\v.heap[w.heap.size]?=some (.cells #[.bool false, .slice ba bn bc, .slice ia 0 ic] 110))
 case first=>
  go_region_with (first|(go_at_call 136;refine(Fx false ba _ bc ia 0 ic bs d _ HL.out hbn).mono ?_;rintro e w1⟨rfl,hb1⟩;have cg:=(hb1.cell (p:=⟨g,0,none⟩) (Aj (c0 _))).trans (c0 _);have fg:=(hb1.frozen (p:=⟨g,0,none⟩) (Aj (c0 _))).trans (f0 _)))
  all_goals
   go_wp2_with fail
   go_meet
   case rel=>exact Jc HCE.out HWX.out hwle hb1
 case rest=>
  obtain⟨ht,hc,hx⟩:=hcut;have hcg:wc.cell? ⟨g,0,none⟩=some (.int .i64 (W+wx:Nat)):=by rw[Ae _ _ _ _ _ _ hc];rfl
  have hx0:wc.cell? ⟨w.heap.size,0,none⟩=some (.bool false):=by rw[Ae _ _ _ _ _ _ hx];rfl
  have hx1:wc.cell? ⟨w.heap.size,1,none⟩=some (.slice ba bn bc):=by rw[Ae _ _ _ _ _ _ hx];rfl
  have hx2:wc.cell? ⟨w.heap.size,2,none⟩=some (.slice ia 0 ic):=by rw[Ae _ _ _ _ _ _ hx];rfl
  have HT:=Xba ht;have HC:=Xba hc;clear ht hc hx;go_wp2_with fail
  go_loopw [8,59] (λq i v=>q= .int .i64 bn/\i= .int .i64 0/\v=wc) (λ_ i _=>0)
  case atStart=>exact⟨rfl,rfl,rfl⟩
  case round=>
   obtain⟨rfl,rfl,rfl⟩:=hrel;go_wp2_with fail;go_ret2;refine⟨HT.out, .inl ?_⟩;rw[HF.out,Ej];refine⟨rfl,?_,HC.out⟩;rw[show szb (T.mk false bs [])=bn from by show bs.length+szs []=bn;rw[Fw,HL.out];rfl];rfl
theorem T9(bs:List Int)(its:List T)(x:V)(d W g:Nat)(w0 w:World)(hli:Lies w0 (.mk true bs its) x)(hbel:Below w0.heap.size w0 w)(hg:w0.heap.size<=g)(hcell:w.heap[g]?=some (.cells #[.int .i64 W] 163))(hW:W<=16777215)(hd:d<=8)
 (hdeep:¬(true=true/\d=8)) (hwf:wrongForm true bs its=false) (hlong:W+wt true bs d<=16777215)
 (ih:∀t∈its,∀(x:V)(d W g:Nat)(w0 w:World),Lies w0 t x->Below w0.heap.size w0 w->w0.heap.size<=g->w.heap[g]?=some (.cells #[.int .i64 W] 163)->W<=16777215->d<=8->Calls prog 110 #[.pointer (some ⟨g,0,none⟩), .agg #[.bool x.l, .slice x.ba x.bn x.bc, .slice x.ia x.m x.ic], .int .i64 d] w (BodyPost t d W g w)):
 Calls prog 110 #[.pointer (some ⟨g,0,none⟩), .agg #[.bool x.l, .slice x.ba x.bn x.bc, .slice x.ia x.m x.ic], .int .i64 d] w (BodyPost (.mk true bs its) d W g w):=by
 obtain⟨l',ba,bn,bc,ia,m,ic⟩:=x;obtain⟨h1,h2,h3,h4,h5,⟨h7,h8⟩,h6⟩:=lies_eq.1 hli;simp only at h1 h2 h3 h4 h5 h6 h7 h8⊢;subst h1;have hgl:=lt_of_get hcell;have hbn:bn<=maxLen:=by unfold maxLen;omega
 have hic:ic<=2^63-1:=h5;have hm:m<=2^63-1:=by omega
 have hbn2:bn<=2^63-1:=hbn;have c0:∀o,(w.alloc o).cell? ⟨g,0,none⟩=some (.int .i64 W):=cell_alloc (by rw[Ae _ _ _ _ _ _ hcell];rfl);have f0:∀o,(w.alloc o).frozen? ⟨g,0,none⟩=false:=λo=>AL _ _ _ _ _ ((Au w o _ hgl).trans hcell);have HL:=Xba h2.l;have H3:=Xba h3;have H6:=Xba h6;have HCE:=Xba hcell;obtain⟨wx,hwx⟩:∃wx,wt true bs d=wx:=⟨_,rfl⟩;have HWX:=Xba hwx;rw[hwx]at hlong;have hwle:W+wx<=150000000000000:=by omega
 have hl2:¬(16777215:Int)<((W+wx:Nat):Int):=by omega
 have hW0:W+wx<=16777215:=hlong;have hfin:wk (T.mk true bs its) d W=wks its (d+1) (W+wx):=by
  rw[IY,Ad (by simp at hdeep⊢;omega),Ad (by rw[hwf];decide),hwx,Ad (by omega)]
 have HF:=Xba hfin;have hb0:bn=0:=by rw[<-h2.l];simp[wrongForm]at hwf;rw[hwf];rfl
 subst hb0;have hd8:((d:Int)==8)=false:=by simp;simp at hdeep;omega
 have hd7:d+1<=8:=by simp at hdeep;omega
 have HI:=Xba ih;clear hfin hwx hwf h3 h6 hcell hli h2 ih hdeep;go_enter func110,ntmps110;go_wp2_with fail
 go_cut [] (λv=>Touch g w v/\v.heap[g]?=some (.cells #[.int .i64 (W+wx:Nat)] 163)/\v.heap[w.heap.size]?=some (.cells #[.bool true, .slice ba 0 bc, .slice ia m ic] 110))
 case first=>
  go_region_with (first|(go_at_call 136;refine(Fx true ba _ bc ia m ic bs d _ HL.out hbn).mono ?_;rintro e w1⟨rfl,hb1⟩;have cg:=(hb1.cell (p:=⟨g,0,none⟩) (Aj (c0 _))).trans (c0 _);have fg:=(hb1.frozen (p:=⟨g,0,none⟩) (Aj (c0 _))).trans (f0 _)))
  all_goals
   go_wp2_with fail
   go_meet
   case rel=>exact Jc HCE.out HWX.out hwle hb1
 case rest=>
  obtain⟨ht,hc,hx⟩:=hcut;have hcg:wc.cell? ⟨g,0,none⟩=some (.int .i64 (W+wx:Nat)):=by rw[Ae _ _ _ _ _ _ hc];rfl
  have hx0:wc.cell? ⟨w.heap.size,0,none⟩=some (.bool true):=by rw[Ae _ _ _ _ _ _ hx];rfl
  have hx1:wc.cell? ⟨w.heap.size,1,none⟩=some (.slice ba 0 bc):=by rw[Ae _ _ _ _ _ _ hx];rfl
  have hx2:wc.cell? ⟨w.heap.size,2,none⟩=some (.slice ia m ic):=by rw[Ae _ _ _ _ _ _ hx];rfl
  have HT:=Xba ht;have HC:=Xba hc;clear ht hc hx;go_wp2_with fail
  go_loopw [8,59] (λq i v=>∃k W':Nat,k<=m/\i= .int .i64 k/\q= .int .i64 (szs (its.take k):Nat)/\wks (its.take k) (d+1) (W+wx)=(W',0)/\Touch g w v/\v.heap[g]?=some (.cells #[.int .i64 W'] 163)) (λ_ i _=>m-(intOf i).toNat)
  case atStart=>exact⟨0,W+wx,by omega,rfl,by rw[BD,Fw];rfl,by rw[BD,Ej],HT.out,HC.out⟩
  case round=>
   obtain⟨k,W',hk,rfl,rfl,hws,ht,hc⟩:=hrel;have HWS:=Xba hws;obtain⟨hW1,hW2,hW3⟩:=JO (Nat.succ_pos _) hW0 hws;generalize hq:szs (its.take k)=q at hW3;have HQ:=Xba hq;clear hws hq;by_cases hlt:k<m
   ·have hk1:k<its.length:=(by have:=H3.out;omega);obtain⟨gi,off,y,hat⟩:=DX H6.out k its[k] (Ac hk1);rw[AD]at hat
    have hb:Below w0.heap.size w0 wr:=Touch.below hbel ht hg (by have:=hbel.size;omega);obtain⟨rfl,a0,a1,a2,ali⟩:=hat
    have c0':=(hb.cell (p:=⟨gi,off+k*3,none⟩) (Aj a0)).trans a0;have c1':=(hb.cell (p:=⟨gi,off+k*3+1,none⟩) (Aj a1)).trans a1;have c2':=(hb.cell (p:=⟨gi,off+k*3+2,none⟩) (Aj a2)).trans a2;clear a0 a1 a2;have ca0:=cell_alloc c0';have ca1:=cell_alloc c1';have ca2:=cell_alloc c2';have hki:(k:Int)<m:=(by omega);obtain⟨u,hu⟩:∃u,its[k]=u:=⟨_,rfl⟩;have hgt:its[k]?=some u:=(by rw[<-hu];exact Ac hk1);have HGT:=Xba hgt;have HIU:=Xba (HI.out u (by rw[<-hu];exact Bo hk1) y (d+1) W' g w0);rw[hu]at ali;have ALI:=Xba ali;have hgr:=lt_of_get hc;have HB:=Xba hb;have HT2:=Xba ht;have HC2:=Xba hc;obtain⟨ul,ub,ui⟩:=u;have y1:=(lies_eq.1 ali).1;have y2:=(lies_eq.1 ali).2.1;have hyl:Hid (y.l=ul):=y1;have AG:=Xba y2;clear hgt hu ali y1 y2 hb ht hc;go_wp2_with fail;rw[show((d:Int)+1)=((d+1:Nat):Int)from by omega];have hcal:=HIU.out (wr.alloc (.cells #[.bool y.l, .slice y.ba y.bn y.bc, .slice y.ia y.m y.ic] 110)) ALI.out (HB.out.alloc HB.out.size _) hg ((Au _ _ _ hgr).trans HC2.out) hW2 hd7;refine hcal.mono ?_;clear hcal;rintro e w1⟨ht1,hres⟩;have ht2:Touch g w w1:=(HT2.out.trans (Touch.of_below ((Ak _ _).alloc (Aa _) _))).trans ht1;have hb1:Below w0.heap.size w0 w1:=Touch.below hbel ht2 hg (by have:=hbel.size;omega);have hyb:w1.heap[wr.heap.size]?=some (.cells #[.bool y.l, .slice y.ba y.bn y.bc, .slice y.ia y.m y.ic] 110):=(ht1.block _ (by simp) (by omega)).trans (Ai _ _);rcases hres with⟨hr0,rfl,hr2⟩|⟨hr0,rfl⟩
    ·have y0:w1.cell? ⟨wr.heap.size,0,none⟩=some (.bool y.l):=(by rw[Ae _ _ _ _ _ _ hyb];rfl);have y1:w1.cell? ⟨wr.heap.size,1,none⟩=some (.slice y.ba y.bn y.bc):=(by rw[Ae _ _ _ _ _ _ hyb];rfl);have y2:w1.cell? ⟨wr.heap.size,2,none⟩=some (.slice y.ia y.m y.ic):=(by rw[Ae _ _ _ _ _ _ hyb];rfl);obtain⟨z1,z2,z3⟩:=Lz (Nat.succ_pos _) hW2 hr0;have HM:=Xba (Lx HGT.out HWS.out hr0);have hsz:sz (T.mk ul ub ui)=szOf ul ub (szb (T.mk ul ub ui)):=V5 _;have hge:=KT ul ub (szb (T.mk ul ub ui));have HSM:=Xba (V3 HGT.out);rw[hsz]at z3 HSM;rw[HQ.out]at HSM;have HR2:=Xba hr2;obtain⟨W'',hW''⟩:∃W'',(wk (T.mk ul ub ui) (d+1) W').1=W'':=⟨_,rfl⟩;obtain⟨nn,hnn0⟩:∃nn,szb (T.mk ul ub ui)=nn:=⟨_,rfl⟩;rw[hW'']at z1 z2 z3 HM HR2;rw[hnn0]at z3 hge HSM⊢;clear hW'' hnn0;have hnn:nn<1000000000:=(by omega);have HT3:=Xba ht2;clear hr0 hsz hr2 hyb ht1 ht2;go_wp2_with fail;refine(L5 y.l y.ba y.bn y.bc y.ia y.m y.ic ub nn _ (AG.out.at hb1) hnn).mono ?_;rintro e w2⟨rfl,hb2⟩;rw[hyl.out];obtain⟨zz,hzz⟩:∃zz,szOf ul ub nn=zz:=⟨_,rfl⟩;rw[hzz]at z3 hge HSM⊢;clear hzz;have hq9:q+zz<9000000000:=(by omega);go_wp2_with fail;refine⟨⟨k+1,W'',by omega,by simp,?_,HM.out,HT3.out.trans (Touch.of_below hb2),Below.row hb2 HR2.out⟩,?_⟩
     ·rw[HSM.out];simp
     ·simp[intOf];omega
    ·have HFL:=Xba (Ly HGT.out HWS.out hr0);have HR0:=Xba hr0;obtain⟨er,her⟩:∃er,(wk (T.mk ul ub ui) (d+1) W').2=er:=⟨_,rfl⟩;have hee:((er:Int) !=0)=true:=(by rw[BL];rw[her]at hr0;omega);have HER:=Xba her;have HT3:=Xba ht2;rw[her];clear hr0 hyb ht1 ht2 her;go_wp2_with fail;go_ret2;refine⟨HT3.out, .inr ?_⟩;rw[HF.out,HFL.out,HER.out];exact⟨by rw[<-HER.out];exact HR0.out,rfl⟩
   ·have hkm:k=m:=(by omega);subst hkm;have hki:¬(k:Int)<k:=(by omega);have ht2:its.take k=its:=A5 (by have:=H3.out;omega);have hw2:=HWS.out;have hq2:=HQ.out;rw[ht2]at hw2 hq2;have HW2:=Xba hw2;have HQ2:=Xba hq2;have HT3:=Xba ht;have HC3:=Xba hc;clear ht2 hw2 hq2 ht hc;go_wp2_with fail;go_ret2;refine⟨HT3.out, .inl ?_⟩;rw[HF.out,HW2.out];refine⟨rfl,?_,HC3.out⟩;rw[show szb (T.mk true bs its)=q from by show bs.length+szs its=q;rw[HQ2.out,HL.out];exact AD _];rfl
end Go.Proofs.YtalhnnjpjaeakaaGreat
