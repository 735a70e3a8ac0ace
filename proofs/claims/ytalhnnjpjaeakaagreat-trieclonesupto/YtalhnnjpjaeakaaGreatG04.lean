/- The items of package nest as plain trees, their encodings, what is amiss with them, and what bytes begin with: plain functions. -/
import Derived.Test.YtalhnnjpjaeakaaGreatAK
import Derived.Test.YtalhnnjpjaeakaaGreatG00
set_option linter.unusedVariables false
set_option maxHeartbeats 2000000
open Go.Proofs.Tryz Go.RowKit
namespace Go.Proofs.YtalhnnjpjaeakaaGreat
variable {n d w k W j : Nat} {α : Type} {b : List Int} {deep : Bool}
inductive T where
 |mk (l:Bool) (bs:List Int) (its:List T)
instance:Inhabited T:=⟨.mk false [] []⟩
def T.l:T->Bool| .mk l _ _=>l
def T.bs:T->List Int| .mk _ bs _=>bs
def T.its:T->List T| .mk _ _ its=>its
def nb(n:Nat):Nat:=if h:n=0 then 0 else 1+nb (n/256)
decreasing_by exact Eb (Nat.pos_of_ne_zero h) (by decide)
def be(n:Nat):List Int:=if h:n=0 then[]else be (n/256)++[((n%256:Nat):Int)]
decreasing_by exact Eb (Nat.pos_of_ne_zero h) (by decide)
theorem Ih:nb 0=0:=by rw[nb];rfl
theorem GM(h:0<n):nb n=1+nb (n/256):=by rw[nb,dif_neg (by omega)]
theorem FX:be 0=[]:=by rw[be];rfl
theorem FL(h:0<n):be n=be (n/256)++[((n%256:Nat):Int)]:=by rw[be,dif_neg (by omega)]
theorem JJ(n:Nat):(be n).length=nb n:=by
 induction n using Nat.strongRecOn with
 |_ n ih=>
  by_cases h:n=0
  ·subst h;rw[FX,Ih];rfl
  ·rw[FL (by omega),GM (by omega),Ab,ih _ (Eb (by omega) (by decide))];simp[Nat.add_comm]
theorem NZ(h0:0<n)(h:n<256):nb n=1:=by rw[GM h0,show n/256=0 from by omega,Ih]
theorem Oa(h0:256<=n)(h:n<65536):nb n=2:=by rw[GM (by omega),NZ (by omega) (by omega)]
theorem IV(h0:65536<=n)(h:n<16777216):nb n=3:=by rw[GM (by omega),Oa (by omega) (by omega)]
theorem Zb(h:n<4294967296):nb n<=4:=by
 by_cases h0:n=0
 ·subst h0;rw[Ih];omega
 ·by_cases h1:n<256
  ·rw[NZ (by omega) h1];omega
  ·by_cases h2:n<65536
   ·rw[Oa (by omega) h2];omega
   ·by_cases h3:n<16777216
    ·rw[IV (by omega) h3];omega
    ·rw[GM (by omega),IV (by omega) (by omega)];omega
theorem G4(h:n<16777216):nb n<=3:=by
 by_cases h0:n=0
 ·subst h0;rw[Ih];omega
 ·by_cases h1:n<256
  ·rw[NZ (by omega) h1];omega
  ·by_cases h2:n<65536
   ·rw[Oa (by omega) h2];omega
   ·rw[IV (by omega) h];omega
theorem Zc(h:0<n):1<=nb n:=by rw[GM h];omega
theorem Vs(h0:0<n)(h:n<256):be n=[(n:Int)]:=by
 rw[FL h0,show n/256=0 from by omega,FX,show n%256=n from by omega];rfl
theorem Vt(h0:256<=n)(h:n<65536):be n=[((n/256:Nat):Int),((n%256:Nat):Int)]:=by
 rw[FL (by omega),Vs (by omega) (by omega)];rfl
theorem Vu(h0:65536<=n)(h:n<16777216):be n=[((n/65536:Nat):Int),((n/256%256:Nat):Int),((n%256:Nat):Int)]:=by
 rw[FL (by omega),Vt (by omega) (by omega),Nat.div_div_eq_div_mul];rfl
def hd(base n:Nat):List Int:=if n<=55 then[((base+n:Nat):Int)]else((base+55+nb n:Nat):Int)::be n
theorem hd_len(base n:Nat):(hd base n).length=1+(if 55<n then nb n else 0):=by
 unfold hd;by_cases h:n<=55
 ·rw[Af h,Ad (by omega)];rfl
 ·rw[Ad h,Af (by omega),AP,JJ];omega
def bare(l:Bool)(bs:List Int):Bool:=!l&&(decide (bs.length=1)&&decide (bs.headD 0<128))
def baseOf(l:Bool):Nat:=if l then 192 else 128
mutual
def enc:T->List Int
 | .mk l bs its=>if bare l (bs++encs its)then bs++encs its else hd (baseOf l) (bs++encs its).length++(bs++encs its)
def encs:List T->List Int
 |[]=>[]
 |t::r=>enc t++encs r
end
def bodyOf(t:T):List Int:=t.bs++encs t.its
theorem Ef(l:Bool)(bs:List Int)(its:List T):enc (.mk l bs its)=if bare l (bs++encs its)then bs++encs its else hd (baseOf l) (bs++encs its).length++(bs++encs its):=by rw[enc]
theorem Cq:encs []=[]:=by rw[encs]
theorem C7(t:T)(r:List T):encs (t::r)=enc t++encs r:=by rw[encs]
theorem EJ:∀a b:List T,encs (a++b)=encs a++encs b
 |[],b=>by rw[Cq];rfl
 |t::r,b=>by rw[Ca,C7,C7,EJ r b,AE]
mutual
def form:T->Bool
 | .mk l bs its=>(if l then bs.isEmpty else its.isEmpty)&&forms its
def forms:List T->Bool
 |[]=>true
 |t::r=>form t&&forms r
end
theorem FY(l:Bool)(bs:List Int)(its:List T):form (.mk l bs its)=((if l then bs.isEmpty else its.isEmpty)&&forms its):=by rw[form]
theorem Ey:forms []=true:=by rw[forms]
theorem I9(t:T)(r:List T):forms (t::r)=(form t&&forms r):=by rw[forms]
mutual
def byt:T->Prop
 | .mk l bs its=>(∀x∈bs,0<=x/\x<256)/\byts its
def byts:List T->Prop
 |[]=>True
 |t::r=>byt t/\byts r
end
theorem Vv(l:Bool)(bs:List Int)(its:List T):byt (.mk l bs its)↔((∀x∈bs,0<=x/\x<256)/\byts its):=by rw[byt]
theorem MN(t:T)(r:List T):byts (t::r)↔(byt t/\byts r):=by rw[byts]
def wt(l:Bool)(bs:List Int)(d:Nat):Nat:=if l&&d==0 then 0 else max bs.length 1
def wrongForm(l:Bool)(bs:List Int)(its:List T):Bool:=(l&&decide (0<bs.length))||(!l&&decide (0<its.length))
mutual
def wk:T->Nat->Nat->Nat×Nat
 | .mk l bs its,d,w=>
  if l&&decide (8<=d)then(w,21)
  else if wrongForm l bs its then(w,23)
  else if 16777215<w+wt l bs d then(w+wt l bs d,20)
  else wks its (d+1) (w+wt l bs d)
def wks:List T->Nat->Nat->Nat×Nat
 |[],d,w=>(w,0)
 |t::r,d,w=>if(wk t d w).2=0 then wks r d (wk t d w).1 else wk t d w
end
theorem IW(l:Bool)(bs:List Int)(its:List T)(d w:Nat):wk (.mk l bs its) d w=if l&&decide (8<=d)then(w,21)else if wrongForm l bs its then(w,23)else if 16777215<w+wt l bs d then(w+wt l bs d,20)else wks its (d+1) (w+wt l bs d):=by rw[wk]
theorem Ej(d w:Nat):wks [] d w=(w,0):=by rw[wks]
theorem Fi(t:T)(r:List T)(d w:Nat):wks (t::r) d w=if(wk t d w).2=0 then wks r d (wk t d w).1 else wk t d w:=by rw[wks]
mutual
def sz:T->Nat
 | .mk l bs its=>if bare l bs then bs.length+szs its else 1+(bs.length+szs its)+(if 55<bs.length+szs its then nb (bs.length+szs its)else 0)
def szs:List T->Nat
 |[]=>0
 |t::r=>sz t+szs r
end
def szOf(l:Bool)(bs:List Int)(n:Nat):Nat:=if bare l bs then n else 1+n+(if 55<n then nb n else 0)
def szb(t:T):Nat:=t.bs.length+szs t.its
theorem Sl(l:Bool)(bs:List Int)(its:List T):sz (.mk l bs its)=szOf l bs (bs.length+szs its):=by rw[sz];rfl
theorem Fv:szs []=0:=by rw[szs]
theorem Gl(t:T)(r:List T):szs (t::r)=sz t+szs r:=by rw[szs]
theorem Ln:∀a b:List T,szs (a++b)=szs a+szs b
 |[],b=>by rw[Fv];simp
 |t::r,b=>by rw[Ca,Gl,Gl,Ln r b];omega
theorem T.ind{p:T->Prop}(h:∀l bs its,(∀t∈its,p t)->p (.mk l bs its)):∀t,p t:=by
 intro t;refine T.rec (motive_1:=p) (motive_2:=λits=>∀t∈its,p t) (λl bs its ih=>h l bs its ih) (λt ht=>by cases ht) (λt r ht hr=>?_) t;intro x hx;rcases A3.1 hx with rfl|hx
 ·exact ht
 ·exact hr x hx
theorem Ed{bs:List Int}{its:List T}(h:form (.mk false bs its)=true):its=[]:=by
 rw[FY]at h;cases its with
 |nil=>rfl
 |cons t r=>simp at h
theorem EK{bs:List Int}{its:List T}(h:form (.mk true bs its)=true):bs=[]/\forms its=true:=by
 rw[FY]at h;cases bs with
 |nil=>simpa using h
 |cons t r=>simp at h
theorem Dg:∀{its:List T},forms its=true->∀t∈its,form t=true
 |[],_,t,ht=>by cases ht
 |x::r,h,t,ht=>by
  rw[I9,BJ]at h;rcases A3.1 ht with rfl|ht
  ·exact h.1
  ·exact Dg h.2 t ht
theorem Vw(bs:List Int)(l:Bool)(its:List T)(h:form (.mk l bs its)=true):bare l (bs++encs its)=bare l bs:=by
 cases l with
 |true=>simp[bare]
 |false=>rw[Ed h,Cq,Az]
theorem Sm{its:List T}(h:∀t∈its,sz t=(enc t).length):szs its=(encs its).length:=by
 induction its with
 |nil=>rw[Fv,Cq];rfl
 |cons t r ih=>
  rw[Gl,C7,Ab,h t (Cn ..),ih λx hx=>h x (AB _ hx)]
theorem Vy:∀t,form t=true->sz t=(enc t).length:=by
 refine T.ind λl bs its ih h=>?_;have hf:forms its=true:=by
  cases l with
  |true=>exact(EK h).2
  |false=>rw[Ed h,Ey]
 have hs:=Sm (its:=its) λt ht=>ih t ht (Dg hf t ht);rw[Sl,Ef,Vw _ _ _ h,szOf];by_cases hb:bare l bs=true
 ·rw[Af hb,Af hb,hs,Ab]
 ·rw[Ad hb,Ad hb,Ab,hd_len,Ab,hs];omega
theorem IX{t:T}(h:form t=true):szb t=(bodyOf t).length:=by
 cases t with
 |mk l bs its=>
  have hf:forms its=true:=by
   cases l with
   |true=>exact(EK h).2
   |false=>rw[Ed h,Ey]
  show bs.length+szs its=(bs++encs its).length;rw[Ab,Sm λt ht=>Vy t (Dg hf t ht)]
theorem Ob:∀{its:List T}{d w:Nat},(wks its d w).2=0->∀t∈its,∃w',(wk t d w').2=0
 |[],_,_,_,t,ht=>by cases ht
 |x::r,d,w,h,t,ht=>by
  rw[Fi]at h;by_cases h0:(wk x d w).2=0
  ·rw[Af h0]at h;rcases A3.1 ht with rfl|ht
   ·exact⟨w,h0⟩
   ·exact Ob h t ht
  ·rw[Ad h0]at h;exact absurd h h0
theorem OT{its:List T}(h:∀t∈its,form t=true):forms its=true:=by
 induction its with
 |nil=>exact Ey
 |cons t r ih=>rw[I9,h t (Cn ..),ih λx hx=>h x (AB _ hx)];rfl
theorem OU{l:Bool}{bs:List Int}{its:List T}(h:(wk (.mk l bs its) d w).2=0):(l=true->d<8)/\wrongForm l bs its=false/\w+wt l bs d<=16777215/\wk (.mk l bs its) d w=wks its (d+1) (w+wt l bs d):=by
 rw[IW]at h⊢;by_cases h1:(l&&decide (8<=d))=true
 ·rw[Af h1]at h;cases h
 ·rw[Ad h1]at h⊢;by_cases h2:wrongForm l bs its=true
  ·rw[Af h2]at h;cases h
  ·rw[Ad h2]at h⊢;by_cases h3:16777215<w+wt l bs d
   ·rw[Af h3]at h;cases h
   ·rw[Ad h3]at h⊢;refine⟨λhl=>?_,by simpa using h2,by omega,rfl⟩;subst hl;simp at h1;omega
theorem EL{l:Bool}{bs:List Int}{its:List T}(h:wrongForm l bs its=false):(if l then bs.isEmpty else its.isEmpty)=true:=by
 cases l with
 |true=>cases bs<;>simp_all [wrongForm]
 |false=>cases its<;>simp_all [wrongForm]
theorem IY:∀t,∀d w,(wk t d w).2=0->form t=true:=by
 refine T.ind λl bs its ih d w h=>?_;obtain⟨_,h2,_,h4⟩:=OU h;rw[h4]at h;rw[FY,EL h2,E7];exact OT λt ht=>let⟨w',hw⟩:=Ob h t ht;ih t ht _ _ hw
theorem Vz{its:List T}(ih:∀t∈its,∀d w,0<d->(wk t d w).2=0->w<=(wk t d w).1/\(wk t d w).1<=16777215+w/\sz t<=10*((wk t d w).1-w)/\(w<=16777215->(wk t d w).1<=16777215)):
 ∀d w,0<d->(wks its d w).2=0->w<=(wks its d w).1/\szs its<=10*((wks its d w).1-w)/\(w<=16777215->(wks its d w).1<=16777215):=by
 induction its with
 |nil=>intro d w _ _;rw[Ej,Fv];exact⟨Aa _,by simp,λh=>h⟩
 |cons t r ihr=>
  intro d w hd h;rw[Fi]at h⊢;by_cases h0:(wk t d w).2=0
  ·rw[Af h0]at h⊢;obtain⟨a1,_,a2,a3⟩:=ih t (Cn ..) d w hd h0;obtain⟨b1,b2,b3⟩:=ihr (λx hx=>ih x (AB _ hx)) d _ hd h;rw[Gl];exact⟨by omega,by omega,λhw=>b3 (a3 hw)⟩
  ·rw[Ad h0]at h;exact absurd h h0
theorem Zw{l:Bool}{bs:List Int}(h:0<d):wt l bs d=max bs.length 1:=by
 unfold wt;rw[Ad];simp;omega
theorem Sn(l:Bool)(bs:List Int)(n:Nat)(h:n<4294967296):szOf l bs n<=n+5:=by
 unfold szOf;split
 ·omega
 ·split
  ·have:=Zb h;omega
  ·omega
theorem Zd:∀t,∀d w,0<d->(wk t d w).2=0->w<=(wk t d w).1/\(wk t d w).1<=16777215+w/\sz t<=10*((wk t d w).1-w)/\(w<=16777215->(wk t d w).1<=16777215):=by
 refine T.ind λl bs its ih d w hd h=>?_;obtain⟨_,h2,h3,h4⟩:=OU h;rw[h4]at h⊢;obtain⟨b1,b2,b3⟩:=Vz ih (d+1) _ (by omega) h;have b4:=b3 h3;rw[Zw hd]at*;have hf:=EL h2;rw[Sl];cases l with
 |true=>
  have:bs=[]:=by simpa using hf
  subst this;have hx:(([]:List Int).length+szs its)=szs its:=by simp
  rw[hx];have hl:max ([]:List Int).length 1=1:=by simp
  rw[hl]at b1 b2 b3 b4 h3⊢;have:=Sn true [] (szs its) (by omega);exact⟨by omega,by omega,by omega,λ_=>b4⟩
 |false=>
  have:its=[]:=by simpa using hf
  subst this;rw[Fv];have:=Sn false bs bs.length (by omega);rw[Ej]at*;exact⟨by show w<=w+_;omega,by show w+_<=_;omega,by show szOf false bs bs.length<=10*(w+max bs.length 1-w);omega,λ_=>h3⟩
theorem IA:∀(a b:List T)(d w:Nat),wks (a++b) d w=if(wks a d w).2=0 then wks b d (wks a d w).1 else wks a d w
 |[],b,d,w=>by rw[Ej];rfl
 |t::r,b,d,w=>by
  rw[Ca,Fi,Fi];by_cases h:(wk t d w).2=0
  ·rw[Af h,Af h,IA r b]
  ·rw[Ad h,Ad h,Ad h]
theorem DJ{l:List α}{t:α}(h:l[k]?=some t):l.take (k+1)=l.take k++[t]:=by
 rw[BQ,h];rfl
theorem MO{l:List α}{t:α}(h:l[k]?=some t):l=l.take k++t::l.drop (k+1):=by
 obtain⟨hk,e⟩:=Aw.1 h;rw[<-e];simp
theorem Lo{its:List T}{t:T}(h:its[k]?=some t)(h0:wks (its.take k) d w=(W,0))(h1:(wk t d W).2=0):wks (its.take (k+1)) d w=((wk t d W).1,0):=by
 rw[DJ h,IA,h0,Af rfl,Fi,Af h1,Ej]
theorem Lp{its:List T}{t:T}(h:its[k]?=some t)(h0:wks (its.take k) d w=(W,0))(h1:(wk t d W).2≠0):wks its d w=wk t d W:=by
 rw[MO h,IA,h0,Af rfl,Fi,Ad h1]
theorem V0{its:List T}{t:T}(h:its[k]?=some t):szs (its.take (k+1))=szs (its.take k)+sz t:=by
 rw[DJ h,Ln,Gl,Fv];rfl
theorem JK{its:List T}(hd:0<d)(hw:w<=16777215)(h:wks its d w=(W,0)):w<=W/\W<=16777215/\szs its<=10*(W-w):=by
 obtain⟨h1,h2,h3⟩:=Vz (its:=its) (λt _=>Zd t) d w hd (by rw[h]);rw[h]at h1 h2 h3;exact⟨h1,h3 hw,h2⟩
theorem Lq{t:T}(hd:0<d)(hw:w<=16777215)(h:(wk t d w).2=0):w<=(wk t d w).1/\(wk t d w).1<=16777215/\sz t<=10*((wk t d w).1-w):=by
 obtain⟨h1,_,h2,h3⟩:=Zd t d w hd h;exact⟨h1,h3 hw,h2⟩
theorem KI(l:Bool)(bs:List Int)(n:Nat):n<=szOf l bs n:=by unfold szOf;split<;>omega
theorem V1(t:T):sz t=szOf t.l t.bs (szb t):=by
 cases t with
 |mk l bs its=>exact Sl l bs its
def val(b:List Int):Nat:=b.foldl (λn x=>n*256+x.toNat) 0
theorem IZ(b:List Int)(x:Int):val (b++[x])=val b*256+x.toNat:=by simp[val]
theorem V3:∀(k:Nat)(b:List Int),b.length=k->(∀x∈b,0<=x/\x<256)->val b<256^k
 |0,b,h,_=>by rw[Ar h];decide
 |k+1,b,h,hb=>by
  obtain⟨i,x,rfl⟩:∃i x,b=i++[x]:=⟨b.dropLast,b.getLast (by intro hh;rw[hh]at h;simp at h),(List.dropLast_concat_getLast _).symm⟩;rw[IZ];have h1:=V3 k i (by simp at h;omega) (λy hy=>hb y (DG _ hy));have h2:=hb x (by simp);rw[Nat.pow_succ];omega
theorem DD(hb:∀x∈b,0<=x/\x<256)(hj:j<=b.length)(h3:j<=3):val (b.take j)<256^j/\256^j<=16777216:=by
 refine⟨V3 j _ (by rw[Ap];omega) (λx hx=>hb x (Bi hx)),?_⟩;have:j=0∨j=1∨j=2∨j=3:=by omega
 rcases this with rfl|rfl|rfl|rfl<;>decide
theorem Lr(hj:j<b.length):val (b.take (j+1))=val (b.take j)*256+(b.getD j 0).toNat:=by
 rw[DJ (Ac hj),IZ];simp[Ac hj]
def lenIn(b:List Int)(c:Nat):Nat×Nat:=
 if 3<c then(0,23)else if b.length<c then(0,22)else if b.headD 0=0∨val (b.take c)<=55 then(0,23)else(val (b.take c),0)
inductive HR where
 |bad (e:Nat)
 |ok (f t:Nat)
def nOf(c:Int):Nat:=(c-(if 192<=c then 192 else 128)).toNat
def hdr(deep:Bool)(b:List Int):HR:=
 match b with
 |[]=> .bad 22
 |c::r=>
  if 192<=c/\deep=true then .bad 21
  else if c<128 then .ok 0 1
  else if 55<nOf c then
   if(lenIn r (nOf c-55)).2≠0 then .bad (lenIn r (nOf c-55)).2
   else if b.length-(1+(nOf c-55))<(lenIn r (nOf c-55)).1 then .bad 22
   else .ok (1+(nOf c-55)) (1+(nOf c-55)+(lenIn r (nOf c-55)).1)
  else if b.length-1<nOf c then .bad 22 else .ok 1 (1+nOf c)
inductive R where
 |bad (e:Nat)
 |ok (t:T) (n:Nat)
inductive RL where
 |bad (e:Nat)
 |ok (ts:List T)
def rdAll(f:List Int->R):Nat->List Int->RL
 |_,[]=> .ok []
 |0,_::_=> .bad 0
 |n+1,x::b=>match f (x::b)with
  | .bad e=> .bad e
  | .ok t m=>match rdAll f n ((x::b).drop m)with
   | .bad e=> .bad e
   | .ok ts=> .ok (t::ts)
def rd1(g:List Int->R)(deep:Bool)(b:List Int):R:=
 match hdr deep b with
 | .bad e=> .bad e
 | .ok f t=>
  if b.headD 0<192 then(if f=1/\t=2/\b.getD 1 0<128 then .bad 23 else .ok (.mk false ((b.take t).drop f) []) t)
  else match rdAll g ((b.take t).drop f).length ((b.take t).drop f)with
   | .bad e=> .bad e
   | .ok ts=> .ok (.mk true [] ts) t
def rd:Nat->List Int->R
 |0=>rd1 (λ_=> .bad 21) true
 |k+1=>rd1 (rd k) false
theorem GN{c:Nat}(h:(lenIn b c).2=0):c<=3/\c<=b.length/\b.headD 0≠0/\55<val (b.take c)/\(lenIn b c).1=val (b.take c):=by
 unfold lenIn at*;by_cases h1:3<c
 ·rw[Af h1]at h;cases h
 ·rw[Ad h1]at h⊢;by_cases h2:b.length<c
  ·rw[Af h2]at h;cases h
  ·rw[Ad h2]at h⊢;by_cases h3:b.headD 0=0∨val (b.take c)<=55
   ·rw[Af h3]at h;cases h
   ·rw[Ad h3];exact⟨by omega,by omega,λh=>h3 (.inl h),by omega,rfl⟩
theorem Ls{f t:Nat}(h:hdr deep b= .ok f t):f<=t/\t<=b.length/\1<=t/\0<b.length:=by
 unfold hdr at h;split at h
 ·cases h
 ·rename_i c r;split at h
  ·cases h
  ·split at h
   ·cases h;simp
   ·split at h
    ·split at h
     ·cases h
     ·rename_i h3 h4;have:=GN (Decidable.not_not.1 h4);split at h
      ·cases h
      ·cases h;simp only[AP]at*;omega
    ·split at h
     ·cases h
     ·cases h;simp only[AP]at*;omega
theorem V5{g:List Int->R}{t:T}(h:rd1 g deep b= .ok t n):1<=n/\n<=b.length:=by
 unfold rd1 at h;split at h
 ·cases h
 ·rename_i f t' hh;have:=Ls hh;split at h
  ·split at h
   ·cases h
   ·cases h;omega
  ·split at h
   ·cases h
   ·cases h;omega
theorem OV{t:T}(h:rd k b= .ok t n):1<=n/\n<=b.length:=by
 cases k with
 |zero=>exact V5 h
 |succ k=>exact V5 h
theorem EW(f:List Int->R)(n:Nat):rdAll f n []= .ok []:=by cases n<;>rfl
theorem FA{f:List Int->R}{e:Nat}(hb:b≠[])(h:f b= .bad e):rdAll f (n+1) b= .bad e:=by
 cases b with
 |nil=>exact absurd rfl hb
 |cons x b=>rw[rdAll,h]
theorem Gm{f:List Int->R}{m:Nat}{t:T}(hb:b≠[])(h:f b= .ok t m):rdAll f (n+1) b=match rdAll f n (b.drop m)with| .bad e=> .bad e| .ok ts=> .ok (t::ts):=by
 cases b with
 |nil=>exact absurd rfl hb
 |cons x b=>rw[rdAll,h]
theorem Lt{f:List Int->R}(hf:∀b t m,f b= .ok t m->1<=m):∀n m b,b.length<=n->b.length<=m->rdAll f n b=rdAll f m b
 |_,_,[],_,_=>by rw[EW,EW]
 |n+1,m+1,x::b,h1,h2=>by
  cases h:f (x::b)with
  |bad e=>rw[FA (by simp) h,FA (by simp) h]
  |ok t k=>
   have hk:=hf _ _ _ h;rw[Gm (by simp) h,Gm (by simp) h,Lt hf n m ((x::b).drop k) (by simp at*;omega) (by simp at*;omega)]
end Go.Proofs.YtalhnnjpjaeakaaGreat
namespace Go.Proofs.YtalhnnjpjaeakaaGreat
variable {w : World} {a : Option Addr} {k g : Nat}
structure V where
 l:Bool
 ba:Option Addr
 bn:Nat
 bc:Nat
 ia:Option Addr
 m:Nat
 ic:Nat
def V.v(x:V):Value:= .agg #[.bool x.l, .slice x.ba x.bn x.bc, .slice x.ia x.m x.ic]
mutual
def Lies(w:World):T->V->Prop
 | .mk l bs its,x=>x.l=l/\Ag w x.ba x.bn x.bc bs/\x.m=its.length/\x.m<=x.ic/\x.ic<=maxLen/\(x.bn<=140737488351232/\x.m<=140737488351232)/\LiesAll w its x.ia 0
def LiesAll(w:World):List T->Option Addr->Nat->Prop
 |[],_,_=>True
 |t::r,a,k=>(∃g off y,a=some ⟨g,off,none⟩/\w.cell? ⟨g,off+k*3,none⟩=some (.bool y.l)/\w.cell? ⟨g,off+k*3+1,none⟩=some (.slice y.ba y.bn y.bc)/\w.cell? ⟨g,off+k*3+2,none⟩=some (.slice y.ia y.m y.ic)/\Lies w t y)/\LiesAll w r a (k+1)
end
theorem lies_eq{l:Bool}{bs:List Int}{its:List T}{x:V}:Lies w (.mk l bs its) x↔(x.l=l/\Ag w x.ba x.bn x.bc bs/\x.m=its.length/\x.m<=x.ic/\x.ic<=maxLen/\(x.bn<=140737488351232/\x.m<=140737488351232)/\LiesAll w its x.ia 0):=by rw[Lies]
theorem liesAll_cons{t:T}{r:List T}:LiesAll w (t::r) a k↔((∃g off y,a=some ⟨g,off,none⟩/\w.cell? ⟨g,off+k*3,none⟩=some (.bool y.l)/\w.cell? ⟨g,off+k*3+1,none⟩=some (.slice y.ba y.bn y.bc)/\w.cell? ⟨g,off+k*3+2,none⟩=some (.slice y.ia y.m y.ic)/\Lies w t y)/\LiesAll w r a (k+1)):=by rw[LiesAll]
theorem Ds:LiesAll w [] a k:=by rw[LiesAll];trivial
structure At(w:World)(a:Option Addr)(k:Nat)(t:T)(g off:Nat)(y:V):Prop where
 ha:a=some ⟨g,off,none⟩
 c0:w.cell? ⟨g,off+k*3,none⟩=some (.bool y.l)
 c1:w.cell? ⟨g,off+k*3+1,none⟩=some (.slice y.ba y.bn y.bc)
 c2:w.cell? ⟨g,off+k*3+2,none⟩=some (.slice y.ia y.m y.ic)
 li:Lies w t y
theorem DX{w:World}{a:Option Addr}:∀{its:List T}{k:Nat},LiesAll w its a k->∀i,∀t,its[i]?=some t->∃g off y,At w a (k+i) t g off y
 |[],k,_,i,t,h=>by simp at h
 |t::r,k,hl,i,u,h=>by
  obtain⟨⟨g,off,y,h1,h2,h3,h4,h5⟩,hr⟩:=liesAll_cons.1 hl;cases i with
  |zero=>
   simp at h;subst h;exact⟨g,off,y,h1,h2,h3,h4,h5⟩
  |succ i=>
   simp at h;obtain⟨g',off',y',h'⟩:=DX hr i u h;rw[show k+1+i=k+(i+1)from by omega]at h';exact⟨g',off',y',h'⟩
theorem Cg{w':World}(hb:Below w.heap.size w w'):∀t,∀x,Lies w t x->Lies w' t x:=by
 refine T.ind λl bs its ih x h=>?_;obtain⟨h1,h2,h3,h4,h5,h7,h6⟩:=lies_eq.1 h;refine lies_eq.2 ⟨h1,h2.at hb,h3,h4,h5,h7,?_⟩;clear h1 h2 h3 h4 h5 h7 h;generalize x.ia=a at h6;generalize 0=k at h6
 induction its generalizing k with
 |nil=>exact Ds
 |cons t r ihr=>
  obtain⟨⟨g,off,y,h1,h2,h3,h4,h5⟩,hr⟩:=liesAll_cons.1 h6;refine liesAll_cons.2 ⟨⟨g,off,y,h1,?_,?_,?_,ih t (Cn ..) y h5⟩,ihr (λu hu=>ih u (AB _ hu)) _ hr⟩
  ·exact(hb.cell (p:=⟨g,off+k*3,none⟩) (Aj h2)).trans h2
  ·exact(hb.cell (p:=⟨g,off+k*3+1,none⟩) (Aj h3)).trans h3
  ·exact(hb.cell (p:=⟨g,off+k*3+2,none⟩) (Aj h4)).trans h4
theorem V6:∀t,∀x,Lies w t x->byt t:=by
 refine T.ind λl bs its ih x h=>?_;obtain⟨h1,h2,h3,h4,h5,h7,h6⟩:=lies_eq.1 h;refine(Vv l bs its).2 ⟨h2.b,?_⟩;clear h1 h2 h3 h4 h5 h7 h;generalize x.ia=a at h6;generalize 0=k at h6
 induction its generalizing k with
 |nil=>rw[byts];trivial
 |cons t r ihr=>
  obtain⟨⟨g,off,y,h1,h2,h3,h4,h5⟩,hr⟩:=liesAll_cons.1 h6;exact(MN t r).2 ⟨ih t (Cn ..) y h5,ihr (λu hu=>ih u (AB _ hu)) _ hr⟩
theorem ag_head{n c:Nat}{bs:List Int}(h:Ag w a n c bs)(h1:0<n):∃g off,a=some ⟨g,off,none⟩/\n<=c/\c<=maxLen/\∀j,j<n->w.cell? ⟨g,off+j,none⟩=some (.int .u8 (bs.getD j 0)):=by
 rcases h.i with⟨h0,_⟩|⟨g,off,h2,h3,h4,h5,h6,h7⟩
 ·omega
 ·exact⟨g,off,h2,h5,h6,λj hj=>h7 j (by omega)⟩
theorem cell_alloc{off:Nat}{v:Value}(h:w.cell? ⟨g,off,none⟩=some v):∀o,(w.alloc o).cell? ⟨g,off,none⟩=some v:=λo=>(Aq (w:=w) (Au w _ _ (Aj h))).trans h
theorem OW(l:Bool)(ba:Option Addr)(bn bc:Nat)(ia:Option Addr)(m ic:Nat)(bs:List Int)(w:World)(h:Ag w ba bn bc bs):
 Calls prog 112 #[.agg #[.bool l, .slice ba bn bc, .slice ia m ic]] w λe w'=>e= .returned (.bool (bare l bs))/\Below w.heap.size w w':=by
 cases l with
 |true=>
  go_enter func112,ntmps112;go_wp2_with fail;go_ret;exact⟨by simp[bare],(Ak _ _).alloc (Aa _) _⟩
 |false=>
  by_cases h1:bn=1
  ·subst h1;obtain⟨g,off,rfl,hc1,hc2,hc⟩:=ag_head h (by omega);have hc:=hc 0 (by omega);have hl:=h.l
   match bs,hl with
   |[x],_=>
    simp at hc;have hx:=h.b x (by simp);have hc2:=cell_alloc hc;clear h;go_enter func112,ntmps112;go_wp2_with fail;go_ret;exact⟨by simp[bare],(Ak _ _).alloc (Aa _) _⟩
  ·have hl:=h.l;have hb:(bn==1)=false:=(by simp[h1]);have hbi:((bn:Int)==1)=false:=(by simp;omega);clear h;go_enter func112,ntmps112;go_wp2_with fail;go_ret;exact⟨by simp[bare,hl,h1],(Ak _ _).alloc (Aa _) _⟩
theorem Fw(l:Bool)(ba:Option Addr)(bn bc:Nat)(ia:Option Addr)(m ic:Nat)(bs:List Int)(d:Nat)(w:World)(hl:bs.length=bn)(hn:bn<=maxLen):
 Calls prog 136 #[.agg #[.bool l, .slice ba bn bc, .slice ia m ic], .int .i64 d] w λe w'=>e= .returned (.int .i64 (wt l bs d:Nat))/\Below w.heap.size w w':=by
 unfold maxLen at hn;cases l with
 |true=>
  by_cases hd:d=0
  ·subst hd;go_enter func136,ntmps136;go_wp2_with fail;go_ret;exact⟨by simp[wt],(Ak _ _).alloc (Aa _) _⟩
  ·have hd2:((d:Int)==0)=false:=(by simp;omega);go_enter func136,ntmps136;go_wp2_with fail
   all_goals
    go_ret;refine⟨?_,(Ak _ _).alloc (Aa _) _⟩;simp[wt,hd,hl];omega
 |false=>
  go_enter func136,ntmps136;go_wp2_with fail
  all_goals
   go_ret;refine⟨?_,(Ak _ _).alloc (Aa _) _⟩;simp[wt,hl];omega
theorem Lu(l:Bool)(ba:Option Addr)(bn bc:Nat)(ia:Option Addr)(m ic:Nat)(bs:List Int)(n:Nat)(w:World)(h:Ag w ba bn bc bs)(hn:n<1000000000):
 Calls prog 111 #[.agg #[.bool l, .slice ba bn bc, .slice ia m ic], .int .i64 n] w λe w'=>e= .returned (.int .i64 (szOf l bs n:Nat))/\Below w.heap.size w w':=by
 have HS:Hid (szOf l bs n=if bare l bs then n else 1+n+(if 55<n then nb n else 0)):=rfl;generalize szOf l bs n=r at HS⊢;go_enter func111,ntmps111;go_wp2_with fail;refine(OW l ba bn bc ia m ic bs _ (h.at ((Ak _ _).alloc (Aa _) _))).mono ?_;rintro e w1⟨rfl,hb⟩;have hb2:=((Ak w.heap.size w).alloc (Aa _) (.cells #[.bool l, .slice ba bn bc, .slice ia m ic] 110)).trans (hb.mono (by simp));clear hb h;by_cases hbr:bare l bs=true
 ·have HR:=HS.out;rw[Af hbr]at HR;rw[hbr];subst HR;go_wp2_with fail;go_ret;exact⟨rfl,hb2⟩
 ·have HR:=HS.out;have hbr2:bare l bs=false:=by simpa using hbr
  rw[Ad hbr]at HR;rw[hbr2];by_cases hn5:55<n
  ·rw[Af hn5]at HR;have hn6:(55:Int)<n:=(by omega);have HH:=XaI HR;clear HR HS;go_wp2_with fail
   go_loop [5,6] (λs q=>∃sn qn:Nat,s= .int .i64 sn/\q= .int .i64 qn/\sn+nb qn=r/\qn<1000000000/\r<1000000010) (λs q=>(intOf q).toNat)
   case atStart=>exact⟨1+n,n,by simp,rfl,by rw[HH.out],hn,by rw[HH.out];have:=Zb (n:=n) (by omega);omega⟩
   case round=>
    obtain⟨sn,qn,rfl,rfl,hs,hq,hr⟩:=hrel;have HS:=XaI hs;clear hs;by_cases h0:qn=0
    ·subst h0;go_wp2_with fail;go_ret;have:=HS.out;rw[Ih]at this;exact⟨by rw[<-this];rfl,hb2⟩
    ·have hq0:(0:Int)<qn:=(by omega);have hsn:sn<1000000010:=(by have:=HS.out;omega);go_wp2_with fail
     go_round
     case rel=>exact⟨sn+1,qn/256,by simp,by simp,by have:=HS.out;rw[GM (by omega)]at this;omega,by omega,hr⟩
     case measure=>simp[intOf];omega
  ·rw[Ad hn5]at HR;have hn6:¬(55:Int)<n:=(by omega);subst HR;go_wp2_with fail;go_ret;exact⟨by simp,hb2⟩
def BodyPost(t:T)(d W g:Nat)(w:World):Ending->World->Prop:=λe w'=>
 Touch g w w'/\(((wk t d W).2=0/\e= .returned (.tuple #[.int .i64 (szb t), .int .i64 0])/\w'.heap[g]?=some (.cells #[.int .i64 ((wk t d W).1:Nat)] 163))∨((wk t d W).2≠0/\e= .returned (.tuple #[.int .i64 0, .int .i64 ((wk t d W).2:Nat)])))
theorem Ja{w1:World}{W wx d:Nat}{l:Bool}{bs:List Int}{X:Array Value}(hc:w.heap[g]?=some (.cells #[.int .i64 W] 163))(hx:wt l bs d=wx)(hle:W+wx<=150000000000000)
 (hb:Below (w.alloc (.cells X 110)).drew.heap.size (w.alloc (.cells X 110)).drew w1):
 Touch g w (w1.setCell ⟨g,0,none⟩ (.int .i64 (IntKind.i64.wrap ((W:Int)+(wt l bs d:Nat)))))/\(w1.setCell ⟨g,0,none⟩ (.int .i64 (IntKind.i64.wrap ((W:Int)+(wt l bs d:Nat))))).heap[g]?=some (.cells #[.int .i64 (W+wx:Nat)] 163)/\
  (w1.setCell ⟨g,0,none⟩ (.int .i64 (IntKind.i64.wrap ((W:Int)+(wt l bs d:Nat))))).heap[w.heap.size]?=some (.cells X 110):=by
 subst hx;have hg:=lt_of_get hc;have e:IntKind.i64.wrap ((W:Int)+(wt l bs d:Nat))=((W+wt l bs d:Nat):Int):=by rw[IntKind.wrap_i64];omega
 have hb2:Below w.heap.size w w1:=(((Ak w.heap.size w).alloc (Aa _) (.cells X 110)).drew).trans (hb.mono (by simp));have h1:w1.heap[g]?=some (.cells #[.int .i64 W] 163):=(hb2.block g hg).trans hc;have h2:w1.heap[w.heap.size]?=some (.cells X 110):=(hb.block _ (by simp)).trans (Ai w _);rw[e];refine⟨(Touch.of_below hb2).trans (Touch.setCell _ _ _ _),AN w1 g 0 _ _ _ h1,(A8 _ _ _ _ (show w.heap.size≠g from by omega)).trans h2⟩
theorem V7(l:Bool)(bs:List Int)(its:List T)(x:V)(d W g:Nat)(w0 w:World)(hli:Lies w0 (.mk l bs its) x)(hbel:Below w0.heap.size w0 w)(hg:w0.heap.size<=g)(hcell:w.heap[g]?=some (.cells #[.int .i64 W] 163))(hW:W<=16777215)(hd:d<=8)(hbad:(l=true/\d=8)∨wrongForm l bs its=true∨16777215<W+wt l bs d):
 Calls prog 110 #[.pointer (some ⟨g,0,none⟩), .agg #[.bool x.l, .slice x.ba x.bn x.bc, .slice x.ia x.m x.ic], .int .i64 d] w (BodyPost (.mk l bs its) d W g w):=by
 obtain⟨l',ba,bn,bc,ia,m,ic⟩:=x;obtain⟨h1,h2,h3,h4,h5,⟨h7,h8⟩,h6⟩:=lies_eq.1 hli;simp only at h1 h2 h3 h4 h5 h6 h7 h8⊢;subst h1;have hgl:=lt_of_get hcell;have hbn:bn<=maxLen:=by unfold maxLen;omega
 have hic:ic<=2^63-1:=h5;have hm:m<=2^63-1:=by omega
 have hbn2:bn<=2^63-1:=hbn;have c0:∀o,(w.alloc o).cell? ⟨g,0,none⟩=some (.int .i64 W):=cell_alloc (by rw[Ae _ _ _ _ _ _ hcell];rfl);have f0:∀o,(w.alloc o).frozen? ⟨g,0,none⟩=false:=λo=>AL _ _ _ _ _ ((Au w o _ hgl).trans hcell);have HW:=IW l' bs its d W;by_cases hdeep:l'=true/\d=8
 ·obtain⟨rfl,rfl⟩:=hdeep;have e1:wk (.mk true bs its) 8 W=(W,21):=by rw[HW];rfl
  go_enter func110,ntmps110;go_wp2_with fail;go_ret2;exact⟨Touch.of_below ((Ak _ _).alloc (Aa _) _), .inr (by rw[e1];exact⟨E3 _,rfl⟩)⟩
 have hdp:(l'&&decide (8<=d))=false:=by
  cases l' with
  |false=>rfl
  |true=>simp at hdeep⊢;omega
 rw[Ad (by rw[hdp];decide)]at HW;by_cases hwf:wrongForm l' bs its=true
 ·rw[Af hwf]at HW;cases l' with
  |true=>
   have hb0:(0:Int)<bn:=(by simp[wrongForm]at hwf;have:=h2.l;omega);have hd8:((d:Int)==8)=false:=(by simp;simp at hdeep;omega);go_enter func110,ntmps110;go_wp2_with fail;go_ret2;exact⟨Touch.of_below ((Ak _ _).alloc (Aa _) _), .inr (by rw[HW];exact⟨E3 _,rfl⟩)⟩
  |false=>
   have hb0:(0:Int)<m:=(by simp[wrongForm]at hwf;omega);go_enter func110,ntmps110;go_wp2_with fail;go_ret2;exact⟨Touch.of_below ((Ak _ _).alloc (Aa _) _), .inr (by rw[HW];exact⟨E3 _,rfl⟩)⟩
 rw[Ad hwf]at HW;have hwf2:((l'=true->bn=0)/\(l'=false->m=0)):=by
  simp[wrongForm]at hwf;have:=h2.l;constructor
  ·intro hl;have:=hwf.1 hl;subst this;simp at*;omega
  ·intro hl;have:=hwf.2 hl;subst this;simp at*;omega
 have hwt:wt l' bs d<=140737488351232:=by unfold wt;rw[h2.l];split<;>omega
 have HL:=XaI h2.l;have H3:=XaI h3;have H6:=XaI h6;have HWW:=XaI HW;have HWF:=XaI hwf2;have HNW:=XaI hwf;have hd8:l'=true->((d:Int)==8)=false:=λhl=>by subst hl;simp;simp at hdeep;omega
 have HD:=XaI hd8;have HCE:=XaI hcell;clear h3 h6 HW hwf2 hwf hd8 hdp hli hcell h2;obtain⟨wx,hwx⟩:∃wx,wt l' bs d=wx:=⟨_,rfl⟩;have HWX:=XaI hwx;rw[hwx]at hwt HWW;clear hwx;have hwle:W+wx<=150000000000000:=by omega
 have hlong:16777215<W+wx:=by
  rcases hbad with h|h|h
  ·exact absurd h hdeep
  ·exact absurd h HNW.out
  ·rw[HWX.out]at h;exact h
 clear hdeep hbad
 ·have hl2:(16777215:Int)<((W+wx:Nat):Int):=by omega
  have hfin:wk (T.mk l' bs its) d W=(W+wx,20):=by rw[HWW.out,Af hlong]
  have HF:=XaI hfin;clear hfin;cases l' with
  |true=>
   have hb0:bn=0:=HWF.out.1 rfl;subst hb0;have hd8:=HD.out rfl;go_enter func110,ntmps110;go_wp2_with fail
   go_cut [] (λv=>Touch g w v/\v.heap[g]?=some (.cells #[.int .i64 (W+wx:Nat)] 163)/\v.heap[w.heap.size]?=some (.cells #[.bool true, .slice ba 0 bc, .slice ia m ic] 110))
   case first=>
    go_region_with (first|(go_at_call 136;refine(Fw true ba _ bc ia m ic bs d _ HL.out hbn).mono ?_;rintro e w1⟨rfl,hb1⟩;have cg:=(hb1.cell (p:=⟨g,0,none⟩) (Aj (c0 _))).trans (c0 _);have fg:=(hb1.frozen (p:=⟨g,0,none⟩) (Aj (c0 _))).trans (f0 _)))
    all_goals
     go_wp2_with fail
     go_meet
     case rel=>exact Ja HCE.out HWX.out hwle hb1
   case rest=>
    obtain⟨ht,hc,hx⟩:=hcut;have hcg:wc.cell? ⟨g,0,none⟩=some (.int .i64 (W+wx:Nat)):=(by rw[Ae _ _ _ _ _ _ hc];rfl);have hx0:wc.cell? ⟨w.heap.size,0,none⟩=some (.bool true):=(by rw[Ae _ _ _ _ _ _ hx];rfl);have hx1:wc.cell? ⟨w.heap.size,1,none⟩=some (.slice ba 0 bc):=(by rw[Ae _ _ _ _ _ _ hx];rfl);have hx2:wc.cell? ⟨w.heap.size,2,none⟩=some (.slice ia m ic):=(by rw[Ae _ _ _ _ _ _ hx];rfl);go_wp2_with fail;go_ret2;exact⟨ht, .inr (by rw[HF.out];exact⟨E3 _,rfl⟩)⟩
  |false=>
   have hm0:m=0:=HWF.out.2 rfl;subst hm0;go_enter func110,ntmps110;go_wp2_with fail
   go_cut [] (λv=>Touch g w v/\v.heap[g]?=some (.cells #[.int .i64 (W+wx:Nat)] 163)/\v.heap[w.heap.size]?=some (.cells #[.bool false, .slice ba bn bc, .slice ia 0 ic] 110))
   case first=>
    go_region_with (first|(go_at_call 136;refine(Fw false ba _ bc ia 0 ic bs d _ HL.out hbn).mono ?_;rintro e w1⟨rfl,hb1⟩;have cg:=(hb1.cell (p:=⟨g,0,none⟩) (Aj (c0 _))).trans (c0 _);have fg:=(hb1.frozen (p:=⟨g,0,none⟩) (Aj (c0 _))).trans (f0 _)))
    all_goals
     go_wp2_with fail
     go_meet
     case rel=>exact Ja HCE.out HWX.out hwle hb1
   case rest=>
    obtain⟨ht,hc,hx⟩:=hcut;have hcg:wc.cell? ⟨g,0,none⟩=some (.int .i64 (W+wx:Nat)):=(by rw[Ae _ _ _ _ _ _ hc];rfl);have hx0:wc.cell? ⟨w.heap.size,0,none⟩=some (.bool false):=(by rw[Ae _ _ _ _ _ _ hx];rfl);have hx1:wc.cell? ⟨w.heap.size,1,none⟩=some (.slice ba bn bc):=(by rw[Ae _ _ _ _ _ _ hx];rfl);have hx2:wc.cell? ⟨w.heap.size,2,none⟩=some (.slice ia 0 ic):=(by rw[Ae _ _ _ _ _ _ hx];rfl);go_wp2_with fail;go_ret2;exact⟨ht, .inr (by rw[HF.out];exact⟨E3 _,rfl⟩)⟩
theorem T6(bs:List Int)(its:List T)(x:V)(d W g:Nat)(w0 w:World)(hli:Lies w0 (.mk false bs its) x)(hbel:Below w0.heap.size w0 w)(hg:w0.heap.size<=g)(hcell:w.heap[g]?=some (.cells #[.int .i64 W] 163))(hW:W<=16777215)(hd:d<=8)
 (hdeep:¬(false=true/\d=8)) (hwf:wrongForm false bs its=false) (hlong:W+wt false bs d<=16777215):
 Calls prog 110 #[.pointer (some ⟨g,0,none⟩), .agg #[.bool x.l, .slice x.ba x.bn x.bc, .slice x.ia x.m x.ic], .int .i64 d] w (BodyPost (.mk false bs its) d W g w):=by
 obtain⟨l',ba,bn,bc,ia,m,ic⟩:=x;obtain⟨h1,h2,h3,h4,h5,⟨h7,h8⟩,h6⟩:=lies_eq.1 hli;simp only at h1 h2 h3 h4 h5 h6 h7 h8⊢;subst h1;have hgl:=lt_of_get hcell;have hbn:bn<=maxLen:=by unfold maxLen;omega
 have hic:ic<=2^63-1:=h5;have hm:m<=2^63-1:=by omega
 have hbn2:bn<=2^63-1:=hbn;have c0:∀o,(w.alloc o).cell? ⟨g,0,none⟩=some (.int .i64 W):=cell_alloc (by rw[Ae _ _ _ _ _ _ hcell];rfl);have f0:∀o,(w.alloc o).frozen? ⟨g,0,none⟩=false:=λo=>AL _ _ _ _ _ ((Au w o _ hgl).trans hcell);have HL:=XaI h2.l;have H3:=XaI h3;have H6:=XaI h6;have HCE:=XaI hcell;obtain⟨wx,hwx⟩:∃wx,wt false bs d=wx:=⟨_,rfl⟩;have HWX:=XaI hwx;rw[hwx]at hlong;have hwle:W+wx<=150000000000000:=by omega
 have hl2:¬(16777215:Int)<((W+wx:Nat):Int):=by omega
 have hW0:W+wx<=16777215:=hlong;have hfin:wk (T.mk false bs its) d W=wks its (d+1) (W+wx):=by
  rw[IW,Ad (by simp),Ad (by rw[hwf];decide),hwx,Ad (by omega)]
 have HF:=XaI hfin;have hm0:m=0:=by rw[h3];simp[wrongForm]at hwf;rw[hwf];rfl
 subst hm0;have hits:its=[]:=Ar h3.symm;subst hits;clear hfin hwx hwf h3 h6 hcell hli h2 H3 H6;go_enter func110,ntmps110;go_wp2_with fail
 go_cut [] (λv=>Touch g w v/\v.heap[g]?=some (.cells #[.int .i64 (W+wx:Nat)] 163)/\v.heap[w.heap.size]?=some (.cells #[.bool false, .slice ba bn bc, .slice ia 0 ic] 110))
 case first=>
  go_region_with (first|(go_at_call 136;refine(Fw false ba _ bc ia 0 ic bs d _ HL.out hbn).mono ?_;rintro e w1⟨rfl,hb1⟩;have cg:=(hb1.cell (p:=⟨g,0,none⟩) (Aj (c0 _))).trans (c0 _);have fg:=(hb1.frozen (p:=⟨g,0,none⟩) (Aj (c0 _))).trans (f0 _)))
  all_goals
   go_wp2_with fail
   go_meet
   case rel=>exact Ja HCE.out HWX.out hwle hb1
 case rest=>
  obtain⟨ht,hc,hx⟩:=hcut;have hcg:wc.cell? ⟨g,0,none⟩=some (.int .i64 (W+wx:Nat)):=by rw[Ae _ _ _ _ _ _ hc];rfl
  have hx0:wc.cell? ⟨w.heap.size,0,none⟩=some (.bool false):=by rw[Ae _ _ _ _ _ _ hx];rfl
  have hx1:wc.cell? ⟨w.heap.size,1,none⟩=some (.slice ba bn bc):=by rw[Ae _ _ _ _ _ _ hx];rfl
  have hx2:wc.cell? ⟨w.heap.size,2,none⟩=some (.slice ia 0 ic):=by rw[Ae _ _ _ _ _ _ hx];rfl
  have HT:=XaI ht;have HC:=XaI hc;clear ht hc hx;go_wp2_with fail
  go_loopw [8,59] (λq i v=>q= .int .i64 bn/\i= .int .i64 0/\v=wc) (λ_ i _=>0)
  case atStart=>exact⟨rfl,rfl,rfl⟩
  case round=>
   obtain⟨rfl,rfl,rfl⟩:=hrel;go_wp2_with fail;go_ret2;refine⟨HT.out, .inl ?_⟩;rw[HF.out,Ej];refine⟨rfl,?_,HC.out⟩;rw[show szb (T.mk false bs [])=bn from by show bs.length+szs []=bn;rw[Fv,HL.out];rfl];rfl
theorem T9(bs:List Int)(its:List T)(x:V)(d W g:Nat)(w0 w:World)(hli:Lies w0 (.mk true bs its) x)(hbel:Below w0.heap.size w0 w)(hg:w0.heap.size<=g)(hcell:w.heap[g]?=some (.cells #[.int .i64 W] 163))(hW:W<=16777215)(hd:d<=8)
 (hdeep:¬(true=true/\d=8)) (hwf:wrongForm true bs its=false) (hlong:W+wt true bs d<=16777215)
 (ih:∀t∈its,∀(x:V)(d W g:Nat)(w0 w:World),Lies w0 t x->Below w0.heap.size w0 w->w0.heap.size<=g->w.heap[g]?=some (.cells #[.int .i64 W] 163)->W<=16777215->d<=8->Calls prog 110 #[.pointer (some ⟨g,0,none⟩), .agg #[.bool x.l, .slice x.ba x.bn x.bc, .slice x.ia x.m x.ic], .int .i64 d] w (BodyPost t d W g w)):
 Calls prog 110 #[.pointer (some ⟨g,0,none⟩), .agg #[.bool x.l, .slice x.ba x.bn x.bc, .slice x.ia x.m x.ic], .int .i64 d] w (BodyPost (.mk true bs its) d W g w):=by
 obtain⟨l',ba,bn,bc,ia,m,ic⟩:=x;obtain⟨h1,h2,h3,h4,h5,⟨h7,h8⟩,h6⟩:=lies_eq.1 hli;simp only at h1 h2 h3 h4 h5 h6 h7 h8⊢;subst h1;have hgl:=lt_of_get hcell;have hbn:bn<=maxLen:=by unfold maxLen;omega
 have hic:ic<=2^63-1:=h5;have hm:m<=2^63-1:=by omega
 have hbn2:bn<=2^63-1:=hbn;have c0:∀o,(w.alloc o).cell? ⟨g,0,none⟩=some (.int .i64 W):=cell_alloc (by rw[Ae _ _ _ _ _ _ hcell];rfl);have f0:∀o,(w.alloc o).frozen? ⟨g,0,none⟩=false:=λo=>AL _ _ _ _ _ ((Au w o _ hgl).trans hcell);have HL:=XaI h2.l;have H3:=XaI h3;have H6:=XaI h6;have HCE:=XaI hcell;obtain⟨wx,hwx⟩:∃wx,wt true bs d=wx:=⟨_,rfl⟩;have HWX:=XaI hwx;rw[hwx]at hlong;have hwle:W+wx<=150000000000000:=by omega
 have hl2:¬(16777215:Int)<((W+wx:Nat):Int):=by omega
 have hW0:W+wx<=16777215:=hlong;have hfin:wk (T.mk true bs its) d W=wks its (d+1) (W+wx):=by
  rw[IW,Ad (by simp at hdeep⊢;omega),Ad (by rw[hwf];decide),hwx,Ad (by omega)]
 have HF:=XaI hfin;have hb0:bn=0:=by rw[<-h2.l];simp[wrongForm]at hwf;rw[hwf];rfl
 subst hb0;have hd8:((d:Int)==8)=false:=by simp;simp at hdeep;omega
 have hd7:d+1<=8:=by simp at hdeep;omega
 have HI:=XaI ih;clear hfin hwx hwf h3 h6 hcell hli h2 ih hdeep;go_enter func110,ntmps110;go_wp2_with fail
 go_cut [] (λv=>Touch g w v/\v.heap[g]?=some (.cells #[.int .i64 (W+wx:Nat)] 163)/\v.heap[w.heap.size]?=some (.cells #[.bool true, .slice ba 0 bc, .slice ia m ic] 110))
 case first=>
  go_region_with (first|(go_at_call 136;refine(Fw true ba _ bc ia m ic bs d _ HL.out hbn).mono ?_;rintro e w1⟨rfl,hb1⟩;have cg:=(hb1.cell (p:=⟨g,0,none⟩) (Aj (c0 _))).trans (c0 _);have fg:=(hb1.frozen (p:=⟨g,0,none⟩) (Aj (c0 _))).trans (f0 _)))
  all_goals
   go_wp2_with fail
   go_meet
   case rel=>exact Ja HCE.out HWX.out hwle hb1
 case rest=>
  obtain⟨ht,hc,hx⟩:=hcut;have hcg:wc.cell? ⟨g,0,none⟩=some (.int .i64 (W+wx:Nat)):=by rw[Ae _ _ _ _ _ _ hc];rfl
  have hx0:wc.cell? ⟨w.heap.size,0,none⟩=some (.bool true):=by rw[Ae _ _ _ _ _ _ hx];rfl
  have hx1:wc.cell? ⟨w.heap.size,1,none⟩=some (.slice ba 0 bc):=by rw[Ae _ _ _ _ _ _ hx];rfl
  have hx2:wc.cell? ⟨w.heap.size,2,none⟩=some (.slice ia m ic):=by rw[Ae _ _ _ _ _ _ hx];rfl
  have HT:=XaI ht;have HC:=XaI hc;clear ht hc hx;go_wp2_with fail
  go_loopw [8,59] (λq i v=>∃k W':Nat,k<=m/\i= .int .i64 k/\q= .int .i64 (szs (its.take k):Nat)/\wks (its.take k) (d+1) (W+wx)=(W',0)/\Touch g w v/\v.heap[g]?=some (.cells #[.int .i64 W'] 163)) (λ_ i _=>m-(intOf i).toNat)
  case atStart=>exact⟨0,W+wx,by omega,rfl,by rw[BD,Fv];rfl,by rw[BD,Ej],HT.out,HC.out⟩
  case round=>
   obtain⟨k,W',hk,rfl,rfl,hws,ht,hc⟩:=hrel;have HWS:=XaI hws;obtain⟨hW1,hW2,hW3⟩:=JK (Nat.succ_pos _) hW0 hws;generalize hq:szs (its.take k)=q at hW3;have HQ:=XaI hq;clear hws hq;by_cases hlt:k<m
   ·have hk1:k<its.length:=(by have:=H3.out;omega);obtain⟨gi,off,y,hat⟩:=DX H6.out k its[k] (Ac hk1);rw[AD]at hat
    have hb:Below w0.heap.size w0 wr:=Touch.below hbel ht hg (by have:=hbel.size;omega);obtain⟨rfl,a0,a1,a2,ali⟩:=hat
    have c0':=(hb.cell (p:=⟨gi,off+k*3,none⟩) (Aj a0)).trans a0;have c1':=(hb.cell (p:=⟨gi,off+k*3+1,none⟩) (Aj a1)).trans a1;have c2':=(hb.cell (p:=⟨gi,off+k*3+2,none⟩) (Aj a2)).trans a2;clear a0 a1 a2;have ca0:=cell_alloc c0';have ca1:=cell_alloc c1';have ca2:=cell_alloc c2';have hki:(k:Int)<m:=(by omega);obtain⟨u,hu⟩:∃u,its[k]=u:=⟨_,rfl⟩;have hgt:its[k]?=some u:=(by rw[<-hu];exact Ac hk1);have HGT:=XaI hgt;have HIU:=XaI (HI.out u (by rw[<-hu];exact Bo hk1) y (d+1) W' g w0);rw[hu]at ali;have ALI:=XaI ali;have hgr:=lt_of_get hc;have HB:=XaI hb;have HT2:=XaI ht;have HC2:=XaI hc;obtain⟨ul,ub,ui⟩:=u;have y1:=(lies_eq.1 ali).1;have y2:=(lies_eq.1 ali).2.1;have hyl:Hid (y.l=ul):=y1;have AG:=XaI y2;clear hgt hu ali y1 y2 hb ht hc;go_wp2_with fail;rw[show((d:Int)+1)=((d+1:Nat):Int)from by omega];have hcal:=HIU.out (wr.alloc (.cells #[.bool y.l, .slice y.ba y.bn y.bc, .slice y.ia y.m y.ic] 110)) ALI.out (HB.out.alloc HB.out.size _) hg ((Au _ _ _ hgr).trans HC2.out) hW2 hd7;refine hcal.mono ?_;clear hcal;rintro e w1⟨ht1,hres⟩;have ht2:Touch g w w1:=(HT2.out.trans (Touch.of_below ((Ak _ _).alloc (Aa _) _))).trans ht1;have hb1:Below w0.heap.size w0 w1:=Touch.below hbel ht2 hg (by have:=hbel.size;omega);have hyb:w1.heap[wr.heap.size]?=some (.cells #[.bool y.l, .slice y.ba y.bn y.bc, .slice y.ia y.m y.ic] 110):=(ht1.block _ (by simp) (by omega)).trans (Ai _ _);rcases hres with⟨hr0,rfl,hr2⟩|⟨hr0,rfl⟩
    ·have y0:w1.cell? ⟨wr.heap.size,0,none⟩=some (.bool y.l):=(by rw[Ae _ _ _ _ _ _ hyb];rfl);have y1:w1.cell? ⟨wr.heap.size,1,none⟩=some (.slice y.ba y.bn y.bc):=(by rw[Ae _ _ _ _ _ _ hyb];rfl);have y2:w1.cell? ⟨wr.heap.size,2,none⟩=some (.slice y.ia y.m y.ic):=(by rw[Ae _ _ _ _ _ _ hyb];rfl);obtain⟨z1,z2,z3⟩:=Lq (Nat.succ_pos _) hW2 hr0;have HM:=XaI (Lo HGT.out HWS.out hr0);have hsz:sz (T.mk ul ub ui)=szOf ul ub (szb (T.mk ul ub ui)):=V1 _;have hge:=KI ul ub (szb (T.mk ul ub ui));have HSM:=XaI (V0 HGT.out);rw[hsz]at z3 HSM;rw[HQ.out]at HSM;have HR2:=XaI hr2;obtain⟨W'',hW''⟩:∃W'',(wk (T.mk ul ub ui) (d+1) W').1=W'':=⟨_,rfl⟩;obtain⟨nn,hnn0⟩:∃nn,szb (T.mk ul ub ui)=nn:=⟨_,rfl⟩;rw[hW'']at z1 z2 z3 HM HR2;rw[hnn0]at z3 hge HSM⊢;clear hW'' hnn0;have hnn:nn<1000000000:=(by omega);have HT3:=XaI ht2;clear hr0 hsz hr2 hyb ht1 ht2;go_wp2_with fail;refine(Lu y.l y.ba y.bn y.bc y.ia y.m y.ic ub nn _ (AG.out.at hb1) hnn).mono ?_;rintro e w2⟨rfl,hb2⟩;rw[hyl.out];obtain⟨zz,hzz⟩:∃zz,szOf ul ub nn=zz:=⟨_,rfl⟩;rw[hzz]at z3 hge HSM⊢;clear hzz;have hq9:q+zz<9000000000:=(by omega);go_wp2_with fail;refine⟨⟨k+1,W'',by omega,by simp,?_,HM.out,HT3.out.trans (Touch.of_below hb2),Below.row hb2 HR2.out⟩,?_⟩
     ·rw[HSM.out];simp
     ·simp[intOf];omega
    ·have HFL:=XaI (Lp HGT.out HWS.out hr0);have HR0:=XaI hr0;obtain⟨er,her⟩:∃er,(wk (T.mk ul ub ui) (d+1) W').2=er:=⟨_,rfl⟩;have hee:((er:Int) !=0)=true:=(by rw[BL];rw[her]at hr0;omega);have HER:=XaI her;have HT3:=XaI ht2;rw[her];clear hr0 hyb ht1 ht2 her;go_wp2_with fail;go_ret2;refine⟨HT3.out, .inr ?_⟩;rw[HF.out,HFL.out,HER.out];exact⟨by rw[<-HER.out];exact HR0.out,rfl⟩
   ·have hkm:k=m:=(by omega);subst hkm;have hki:¬(k:Int)<k:=(by omega);have ht2:its.take k=its:=A5 (by have:=H3.out;omega);have hw2:=HWS.out;have hq2:=HQ.out;rw[ht2]at hw2 hq2;have HW2:=XaI hw2;have HQ2:=XaI hq2;have HT3:=XaI ht;have HC3:=XaI hc;clear ht2 hw2 hq2 ht hc;go_wp2_with fail;go_ret2;refine⟨HT3.out, .inl ?_⟩;rw[HF.out,HW2.out];refine⟨rfl,?_,HC3.out⟩;rw[show szb (T.mk true bs its)=q from by show bs.length+szs its=q;rw[HQ2.out,HL.out];exact AD _];rfl
end Go.Proofs.YtalhnnjpjaeakaaGreat
