/- What is written is read as it was; of an encoding no shorter piece is one: plain laws. -/
import Derived.Test.YtefhepcplempkaaGreatAK
import Derived.Test.YtefhepcplempkaaGreatG04
import Derived.Test.YtefhepcplempkaaGreatG05
import Derived.Test.YtefhepcplempkaaGreatG00
import Derived.Deep.RegionHeld3
import Derived.Laws.CopyRow
set_option linter.unusedVariables false
set_option maxRecDepth 100000
set_option maxHeartbeats 1000000
open Go.Proofs.Tryz Go.RowKit
namespace Go.Proofs.YtefhepcplempkaaGreat
variable {n base : Nat}
theorem YB(n:Nat):val (be n)=n:=by
 induction n using Nat.strongRecOn with
 |_ n ih=>
  by_cases h:n=0
  ·subst h;rw[Gt];rfl
  ·rw[Gc (by omega),Jl,ih _ (Es (by omega) (by decide))];omega
theorem Yn(h:0<n):be n≠[]:=by rw[Gc h];simp
theorem WY(n:Nat):0<n->(be n).headD 0≠0:=by
 induction n using Nat.strongRecOn with
 |_ n ih=>
  intro h;rw[Gc h];by_cases h0:n/256=0
  ·rw[h0,Gt];show((n%256:Nat):Int)≠0;omega
  ·have h1:=ih (n/256) (Es h (by decide)) (by omega);have h2:=Yn (n:=n/256) (by omega);cases hd:be (n/256)with
   |nil=>exact absurd hd h2
   |cons x r=>rw[hd]at h1;exact h1
theorem UR{a b:List Int}(h:a≠[]):(a++b).headD 0=a.headD 0:=by
 cases a with
 |nil=>exact absurd rfl h
 |cons x r=>rfl
theorem UT(h:55<n)(h2:n<16777216)(r:List Int):lenIn (be n++r) (nb n)=(n,0):=by
 have h3:=GO h2;have e:(be n++r).take (nb n)=be n:=by rw[<-JT,CX]
 unfold lenIn;rw[Ae (by omega),Ae (by rw[Ab,JT];omega),e,YB,UR (Yn (by omega)),Ae];rintro(h4|h4)
 ·exact WY n (by omega) h4
 ·omega
theorem OO(hb:base=128∨base=192)(hn:n<=63)(h:base=128->n<64):nOf ((base+n:Nat):Int)=n:=by
 unfold nOf;rcases hb with rfl|rfl
 ·split<;>omega
 ·split<;>omega
theorem UU{deep:Bool}(hb:base=128∨base=192)(hdp:base=192->deep=false)(body more:List Int)(hl:body.length<=16777215):
 hdr deep (hd base body.length++(body++more))= .ok (hd base body.length).length ((hd base body.length).length+body.length):=by
 unfold hd;by_cases h5:body.length<=55
 ·rw[Ai h5];have hn:=OO (n:=body.length) hb (by omega) (by omega);show hdr deep (((base+body.length:Nat):Int)::(body++more))=_;unfold hdr;simp only;rw[Ae (by rintro⟨h1,h2⟩;rcases hb with rfl|rfl;omega;rw[hdp rfl]at h2;cases h2),Ae (by rcases hb with rfl|rfl<;>omega),hn,Ae (by omega),Ae (by simp only[AU,Ab];omega)];rfl
 ·rw[Ae h5];have h3:=GO (n:=body.length) (by omega);have h1:=Yi (n:=body.length) (by omega);have hn:=OO (n:=55+nb body.length) hb (by omega) (by omega);rw[show base+(55+nb body.length)=base+55+nb body.length from by omega]at hn;show hdr deep (((base+55+nb body.length:Nat):Int)::(be body.length++(body++more)))=_;unfold hdr;simp only;rw[Ae (by rintro⟨h1,h2⟩;rcases hb with rfl|rfl;omega;rw[hdp rfl]at h2;cases h2),Ae (by rcases hb with rfl|rfl<;>omega),hn,Ai (by omega),show 55+nb body.length-55=nb body.length from by omega,UT (by omega) (by omega)];simp only;rw[Ae (by simp),Ae (by simp only[AU,Ab,JT];omega)];simp only[AU,JT];congr 1<;>omega
theorem NL(base n:Nat):1<=(hd base n).length:=by rw[hd_len];omega
theorem Jr(t:T):1<=(enc t).length:=by
 obtain⟨l,bs,its⟩:=t;rw[Ew];split
 ·rename_i h;unfold bare at h;simp only[BN,Dv]at h;have:=h.2.1;omega
 ·rw[Ab];have:=NL (baseOf l) (bs++encs its).length;omega
theorem FE(t:T):(bodyOf t).length<=(enc t).length:=by
 obtain⟨l,bs,its⟩:=t;show(bs++encs its).length<=_;rw[Ew];split
 ·exact Aa _
 ·exact Ar (Nat.le_add_left _ _) (Nat.le_of_eq List.length_append.symm)
theorem OP(h body more:List Int):((h++(body++more)).take (h.length+body.length)).drop h.length=body:=by
 rw[<-A9,List.take_left' (by rw[Ab]),Cl]
theorem RO(hb:base=128∨base=192)(hn:n<16777216)(r:List Int):(hd base n++r).headD 0<192↔base=128:=by
 have h3:=GO hn;unfold hd;split
 ·show((base+n:Nat):Int)<192↔_;rcases hb with rfl|rfl<;>omega
 ·show((base+55+nb n:Nat):Int)<192↔_;rcases hb with rfl|rfl<;>omega
theorem OQ(g:List Int->R)(deep:Bool)(bs more:List Int)(hl:bs.length<=16777215):rd1 g deep (enc (.mk false bs [])++more)= .ok (.mk false bs []) (enc (.mk false bs [])).length:=by
 rw[Ew,Cr,A4];by_cases hb:bare false bs=true
 ·rw[Ai hb];unfold bare at hb;simp only[Bool.not_false,EQ,BN,Dv]at hb
  match bs,hb with
  |[x],⟨_,h2⟩=>
   have h2':x<128:=h2;show rd1 g deep (x::more)=_;have e:hdr deep (x::more)= .ok 0 1:=by
    unfold hdr;simp only;rw[Ae (by omega),Ai h2']
   unfold rd1;rw[e];simp only;rw[Ai (show(x::more).headD 0<192 by show x<192;omega),Ae (by simp)];rfl
 ·rw[Ae hb,baseOf,Ae (by simp),A9];have e:=UU (deep:=deep) (base:=128) (.inl rfl) (λh=>by cases h) bs more hl;unfold rd1;rw[e];simp only;have hh:(hd 128 bs.length++(bs++more)).headD 0<192:=(RO (base:=128) (Or.inl rfl) (n:=bs.length) (by omega) (bs++more)).2 rfl;rw[Ai hh,OP,Ab,Ae];rintro⟨h1,h2,h3⟩;apply hb;have hn1:bs.length=1:=by omega
  have h5:hd 128 bs.length=[((128+bs.length:Nat):Int)]:=by unfold hd;rw[Ai (by omega)]
  rw[h5]at h3;clear hh e;obtain⟨x,rfl⟩:=List.length_eq_one_iff.1 hn1;have h3':x<128:=h3;unfold bare;simp[h3']
theorem LG{g:List Int->R}:∀(its:List T)(fuel:Nat),(encs its).length<=fuel->(∀t∈its,∀more,g (enc t++more)= .ok t (enc t).length)->rdAll g fuel (encs its)= .ok its
 |[],fuel,_,_=>by rw[Cr,Fq]
 |t::r,fuel,hl,h=>by
  rw[C7]at hl⊢;have h1:=Jr t;rw[Ab]at hl;obtain⟨f,rfl⟩:∃f,fuel=f+1:=⟨fuel-1,by omega⟩;have hne:enc t++encs r≠[]:=by
   intro e;have:=Au List.length e;rw[Ab,CB]at this;omega
  rw[G4 hne (h t (BY ..) _),Cl,LG r f (by omega) (λu hu=>h u (AN _ hu))]
theorem FF:∀{its:List T}{t:T},t∈its->(enc t).length<=(encs its).length
 |x::r,t,ht=>by
  rw[C7,Ab];rcases AP.1 ht with rfl|ht
  ·omega
  ·have:=FF ht;omega
theorem YC:∀t,∀k d w more,d+k=8->(wk t d w).2=0->(bodyOf t).length<=16777215->rd k (enc t++more)= .ok t (enc t).length:=by
 refine T.ind λl bs its ih k d w more hdk h hl=>?_;obtain⟨h1,h2,h3,h4⟩:=OD h;have hw:=Fb h2;cases l with
 |false=>
  have hi:its=[]:=by simpa using hw
  subst hi;have hl2:bs.length<=16777215:=by
   have:(bs++encs []).length<=16777215:=hl;rwa [Cr,A4]at this
  cases k with
  |zero=>exact OQ _ _ _ _ hl2
  |succ k=>exact OQ _ _ _ _ hl2
 |true=>
  have hbs:bs=[]:=by simpa using hw
  subst hbs;have hd8:=h1 rfl;obtain⟨k,rfl⟩:∃k',k=k'+1:=⟨k-1,by omega⟩;have hl2:(encs its).length<=16777215:=by
   have:(([]:List Int)++encs its).length<=16777215:=hl;rwa [AL]at this
  rw[h4]at h;have hall:∀t∈its,∀more,rd k (enc t++more)= .ok t (enc t).length:=by
   intro t ht more;obtain⟨w',hw'⟩:=NI h t ht;have a1:=FE t;have a2:=FF ht;exact ih t ht k (d+1) w' more (by omega) hw' (by omega)
  rw[Ew,AL,Ae (by simp[bare]),baseOf,Ai rfl,A9];have e:=UU (deep:=false) (base:=192) (.inr rfl) (λ_=>rfl) (encs its) more hl2;show rd1 (rd k) false _=_;unfold rd1;rw[e];simp only;have hh:¬(hd 192 (encs its).length++(encs its++more)).headD 0<192:=λh=>by
   have:=(RO (base:=192) (Or.inr rfl) (n:=(encs its).length) (by omega) (encs its++more)).1 h;omega
  rw[Ae hh,OP,LG its _ (Aa _) hall,Ab]
theorem YD{t:T}(h:(mP t).2=0)(more:List Int):rd 8 (enc t++more)= .ok t (enc t).length:=by
 obtain⟨h1,h2,_⟩:=Yk h;have hf:=Jk t 0 0 h1;exact YC t 8 0 0 more rfl h1 (by rw[<-Jj hf];omega)
theorem KZ{t:T}(h:(mP t).2=0):decP (enc t)= .ok t:=by
 have:=YD h [];rw[A4]at this;unfold decP;rw[this];simp only;rw[Ae (by omega)]
def Deep(d:Nat)(t:T):Prop:=∀w,w+(enc t).length<=16777215->((wk t d w).2=0/\(wk t d w).1<=w+(enc t).length)∨(wk t d w).2=21
theorem RP(h:n<16777216):(hd base n).length<=4:=by
 rw[hd_len];have:=GO h;split<;>omega
end Go.Proofs.YtefhepcplempkaaGreat
namespace Go.Proofs.YtefhepcplempkaaGreat
open Ni (unpP packP rightP)
variable {dk' : List Int → Int} {b i : List Int} {u : T} {D : Nat} {ts : List T}
structure PR where
 k:Int
 d:List Int
 i:List Int
structure PN where
 k:Int
 p:List Int
 v:List Int
 c:PR
 ks:List PR
def z32:List Int:=List.replicate 32 0
def r0:PR:=⟨0,z32,[]⟩
def n0:PN:=⟨0,[],[],r0,[]⟩
def t0:T:= .mk false [] []
def refOfP(t:T):Option PR:=
 if t.l=true then(if(mP t).2=0 then some ⟨1,z32,enc t⟩else none)
 else if t.bs.length=0 then some r0
 else if t.bs.length=32 then some ⟨2,t.bs,[]⟩else none
def pathP(x y:T):Option PN:=
 if x.l=true∨(unpP x.bs).2.2≠0 then none
 else if(unpP x.bs).2.1=true then(if y.l=true then none else some ⟨1,(unpP x.bs).1,y.bs,r0,[]⟩)
 else match refOfP y with
  |none=>none
  |some c=>some ⟨2,(unpP x.bs).1,[],c,[]⟩
def kidsP:List T->Option (List PR)
 |[]=>some []
 |t::r=>match refOfP t with
  |none=>none
  |some a=>match kidsP r with
   |none=>none
   |some l=>some (a::l)
def branchP(ts:List T)(y:T):Option PN:=match kidsP ts with
 |none=>none
 |some ks=>if y.l=true then none else some ⟨3,[],y.bs,r0,ks⟩
def nodeOfP(t:T):Option PN:=
 if t.its.length=2 then pathP (t.its.getD 0 t0) (t.its.getD 1 t0)
 else if t.its.length=17 then branchP (t.its.take 16) (t.its.getD 16 t0)else none
def kd(o:Option PN):Int:=match o with
 |none=>0
 |some n=>n.k
def rrefP(dk:List Int->Int)(r:PR):Bool:=
 if r.k=0 then decide (r.d=z32)&&decide (r.i.length=0)
 else if r.k=2 then decide (r.i.length=0)
 else if r.k=1 then decide (r.d=z32)&&decide (r.i.length<32)&&decide (dk r.i≠0)
 else false
def rpathP(n:PN):Bool:=
 if n.k=2 then(if n.p.length=0 then false else decide (n.p.length<=64)&&rightP n.p)
 else if n.k=1 then decide (n.p.length<=64)&&rightP n.p
 else decide (n.p.length=0)
def rvalueP(n:PN):Bool:=
 if n.k=1 then(if n.v.length=0 then false else decide (n.v.length<=256))
 else if n.k=3 then decide (n.v.length<=256)
 else decide (n.v.length=0)
def rchildP(dk:List Int->Int)(n:PN):Bool:=
 if rrefP dk n.c=false then false
 else if n.k≠2 then decide (n.c.k=0)
 else decide (n.c.k=2)||decide (dk n.c.i=3)
def ways:List PR->Nat
 |[]=>0
 |r::l=>(if r.k≠0 then 1 else 0)+ways l
def rkidsP(dk:List Int->Int)(n:PN):Bool:=
 if n.k≠3 then decide (n.ks.length=0)
 else if n.ks.length≠16 then false
 else n.ks.all (rrefP dk)&&decide (2<=(if 0<n.v.length then 1 else 0)+ways n.ks)
def knownP(n:PN):Bool:=decide (n.k=1)||decide (n.k=2)||decide (n.k=3)
def nright(dk:List Int->Int)(n:PN):Bool:=knownP n&&rpathP n&&rvalueP n&&rchildP dk n&&rkidsP dk n
def ndec:Nat->List Int->Option PN
 |0,_=>none
 |f+1,b=>match decP b with
  | .bad _=>none
  | .ok t=>match nodeOfP t with
   |none=>none
   |some n=>if nright (λi=>kd (ndec f i)) n=true then some n else none
def ND(b:List Int):Option PN:=ndec 33 b
def KD(b:List Int):Int:=kd (ND b)
def NR(n:PN):Bool:=nright KD n
def refItemP(r:PR):T:=
 if r.k=1 then(match decP r.i with| .ok t=>t| .bad _=>t0)
 else if r.k=2 then .mk false r.d []else t0
def itemP(n:PN):T:=
 if n.k=3 then .mk true [] (n.ks.map refItemP++[.mk false n.v []])
 else if n.k=1 then .mk true [] [.mk false (packP n.p true).1 [], .mk false n.v []]
 else .mk true [] [.mk false (packP n.p false).1 [],refItemP n.c]
def isB(b:List Int):Prop:=∀x∈b,0<=x/\x<256
def okR(r:PR):Prop:=isB r.d/\r.d.length=32/\isB r.i
def okN(n:PN):Prop:=isB n.p/\isB n.v/\okR n.c/\∀r∈n.ks,okR r
theorem LH{dk:List Int->Int}{r:PR}(h:r.i.length<32->dk r.i=dk' r.i):rrefP dk r=rrefP dk' r:=by
 unfold rrefP;by_cases h32:r.i.length<32
 ·rw[h h32]
 ·simp[h32]
theorem LI{dk:List Int->Int}{r:PR}(h:rrefP dk r=true):r.i.length<32:=by
 unfold rrefP at h;by_cases h0:r.k=0
 ·simp[h0]at h;rw[h.2];decide
 ·by_cases h2:r.k=2
  ·simp[h2]at h;rw[h];decide
  ·by_cases h1:r.k=1
   ·simp[h1]at h;omega
   ·simp[h0,h1,h2]at h
theorem MK{dk dk':List Int->Int}:∀{ks:List PR},(∀r∈ks,r.i.length<32->dk r.i=dk' r.i)->ks.all (rrefP dk)=ks.all (rrefP dk')
 |[],_=>rfl
 |r::l,h=>by
  rw[List.all_cons,List.all_cons,LH (h r (by simp)),MK λx hx=>h x (AN _ hx)]
theorem Js{dk:List Int->Int}{n:PN}(hc:n.c.i.length<32->dk n.c.i=dk' n.c.i)(hk:∀r∈n.ks,r.i.length<32->dk r.i=dk' r.i):nright dk n=nright dk' n:=by
 unfold nright rchildP rkidsP;rw[MK hk,LH hc];by_cases h:rrefP dk' n.c=false
 ·simp[h]
 ·rw[hc (LI (by simpa using h))]
theorem GP{t:T}(hb:isB b)(h:decP b= .ok t):enc t=b/\(mP t).2=0/\form t=true:=by
 have hr:rd 8 b= .ok t b.length:=by
  unfold decP at h;cases hq:rd 8 b with
  |bad e=>rw[hq]at h;cases h
  |ok t' n=>
   rw[hq]at h;dsimp only at h;have:=OE hq;by_cases hn:n<b.length
   ·rw[Ai hn]at h;cases h
   ·rw[Ae hn]at h;cases h;rw[show n=b.length from by omega]
 obtain⟨h1,h2⟩:=WW hb hr;refine⟨?_,h2,(Jo h2).2.2⟩;unfold encP at h1;rw[Ai h2]at h1;exact Au Prod.fst h1
theorem Kv{t:T}(hf:form t=true)(h:0<t.its.length):t.l=true/\t.bs=[]/\forms t.its=true:=by
 obtain⟨l,bs,its⟩:=t;cases l with
 |false=>rw[Eu hf]at h;exact absurd h (by simp[T.its])
 |true=>exact⟨rfl,Fa hf⟩
theorem WZ{t:T}(h:t.l=true)(hb:t.bs=[]):enc t=hd 192 (encs t.its).length++encs t.its:=by
 obtain⟨l,bs,its⟩:=t;simp only[T.l,T.bs]at h hb;subst h hb;rw[Ew,AL,Ae (by simp[bare]),baseOf,Ai rfl];rfl
theorem FT{l:List T}{i:Nat}(h:i<l.length):l.getD i t0∈l:=by
 rw[List.getD,Ac h];exact Bw h
theorem Jt:∀{its:List T}{t:T},t∈its->∀x∈enc t,x∈encs its
 |y::r,t,ht,x,hx=>by
  rw[C7];rcases AP.1 ht with rfl|ht
  ·exact Dp _ hx
  ·exact Ey _ (Jt ht x hx)
theorem Ju{t:T}(hb:isB b)(h:decP b= .ok t)(hu:u∈t.its):(enc u).length<b.length/\∀x∈enc u,x∈b:=by
 obtain⟨h1,h2,h3⟩:=GP hb h;obtain⟨l1,l2,l3⟩:=Kv h3 (List.length_pos_of_mem hu);rw[WZ l1 l2]at h1;have:=FF hu;have:=NL 192 (encs t.its).length;rw[<-h1];refine⟨by rw[Ab];omega,λx hx=>Ey _ (Jt hu x hx)⟩
theorem Xa{r:PR}(h:refOfP u=some r):r.i=enc u∨r.i=[]:=by
 unfold refOfP at h;by_cases hl:u.l=true
 ·rw[Ai hl]at h;by_cases hm:(mP u).2=0
  ·rw[Ai hm]at h;cases h;exact .inl rfl
  ·rw[Ae hm]at h;cases h
 ·rw[Ae hl]at h;by_cases h0:u.bs.length=0
  ·rw[Ai h0]at h;cases h;exact .inr rfl
  ·rw[Ae h0]at h;by_cases h32:u.bs.length=32
   ·rw[Ai h32]at h;cases h;exact .inr rfl
   ·rw[Ae h32]at h;cases h
theorem OR:∀{ts:List T}{ks:List PR},kidsP ts=some ks->ks.length=ts.length/\∀r∈ks,∃u∈ts,refOfP u=some r
 |[],ks,h=>by cases h;exact⟨rfl,λr hr=>by cases hr⟩
 |t::l,ks,h=>by
  rw[kidsP]at h;cases hr:refOfP t with
  |none=>rw[hr]at h;cases h
  |some a=>
   rw[hr]at h;dsimp only at h;cases hk:kidsP l with
   |none=>rw[hk]at h;cases h
   |some l'=>
    rw[hk]at h;cases h;obtain⟨h1,h2⟩:=OR hk;refine⟨by simp[h1],λr hr'=>?_⟩;rcases AP.1 hr' with rfl|hr'
    ·exact⟨t,by simp,hr⟩
    ·obtain⟨u,hu,e⟩:=h2 r hr';exact⟨u,by simp[hu],e⟩
theorem Kw{t:T}{n:PN}(h:nodeOfP t=some n):0<t.its.length/\∀r,(r=n.c∨r∈n.ks)->r.i=[]∨∃u∈t.its,refOfP u=some r:=by
 unfold nodeOfP at h;by_cases h2:t.its.length=2
 ·rw[Ai h2]at h;refine⟨by omega,?_⟩;unfold pathP at h;split at h
  ·cases h
  ·split at h
   ·split at h
    ·cases h
    ·cases h;intro r hr;rcases hr with rfl|hr
     ·exact .inl rfl
     ·cases hr
   ·cases hq:refOfP (t.its.getD 1 t0)with
    |none=>rw[hq]at h;cases h
    |some c=>
     rw[hq]at h;cases h;intro r hr;rcases hr with rfl|hr
     ·exact .inr ⟨_,FT (by omega),hq⟩
     ·cases hr
 ·rw[Ae h2]at h;by_cases h17:t.its.length=17
  ·rw[Ai h17]at h;refine⟨by omega,?_⟩;unfold branchP at h;cases hk:kidsP (t.its.take 16)with
   |none=>rw[hk]at h;cases h
   |some ks=>
    rw[hk]at h;dsimp only at h;split at h
    ·cases h
    ·cases h;intro r hr;rcases hr with rfl|hr
     ·exact .inl rfl
     ·obtain⟨u,hu,e⟩:=(OR hk).2 r hr;exact .inr ⟨u,Bn hu,e⟩
  ·rw[Ae h17]at h;cases h
theorem LJ{t:T}{n:PN}(hb:isB b)(h:decP b= .ok t)(hn:nodeOfP t=some n):∀r,(r=n.c∨r∈n.ks)->r.i.length<b.length/\isB r.i:=by
 obtain⟨h0,hr⟩:=Kw hn;have hu0:=(Ju hb h (FT h0)).1;intro r hrr;rcases hr r hrr with e|⟨u,hu,e⟩
 ·rw[e];exact⟨by simp;omega,λx hx=>by cases hx⟩
 ·obtain⟨s1,s2⟩:=Ju hb h hu;rcases Xa e with e|e
  ·rw[e];exact⟨s1,λx hx=>hb x (s2 x hx)⟩
  ·rw[e];exact⟨by simp;omega,λx hx=>by cases hx⟩
theorem Tc:∀(L:Nat)(b:List Int),b.length<=L->isB b->∀f f',b.length<f->b.length<f'->ndec f b=ndec f' b:=by
 intro L
 induction L using Nat.strongRecOn with
 |_ L ih=>
  intro b hL hb f f' hf hf';obtain⟨g,rfl⟩:∃g,f=g+1:=⟨f-1,by omega⟩;obtain⟨g',rfl⟩:∃g',f'=g'+1:=⟨f'-1,by omega⟩;rw[ndec,ndec];cases hd:decP b with
  |bad e=>rfl
  |ok t=>
   dsimp only;cases hn:nodeOfP t with
   |none=>rfl
   |some n=>
    dsimp only;have hs:=LJ hb hd hn;have hcg:∀r,(r=n.c∨r∈n.ks)->ndec g r.i=ndec g' r.i:=λr hr=>by
     obtain⟨s1,s2⟩:=hs r hr;exact ih r.i.length (by omega) r.i (Aa _) s2 g g' (by omega) (by omega)
    rw[Js (dk:=λi=>kd (ndec g i)) (dk':=λi=>kd (ndec g' i)) (λ_=>by rw[hcg _ (.inl rfl)]) (λr hr _=>by rw[hcg _ (.inr hr)])]
theorem RQ(hb:isB b):ND b=match decP b with
 | .bad _=>none
 | .ok t=>match nodeOfP t with
  |none=>none
  |some n=>if NR n=true then some n else none:=by
 show ndec (32+1) b=_;rw[ndec];cases hd:decP b with
 |bad e=>rfl
 |ok t=>
  dsimp only;cases hn:nodeOfP t with
  |none=>rfl
  |some n=>
   dsimp only;have hs:=LJ hb hd hn;have hcg:∀r,(r=n.c∨r∈n.ks)->r.i.length<32->ndec 32 r.i=ND r.i:=λr hr h32=>by
    obtain⟨s1,s2⟩:=hs r hr;exact Tc r.i.length r.i (Aa _) s2 32 33 (by omega) (by omega)
   rw[Js (dk:=λi=>kd (ndec 32 i)) (dk':=KD) (λh=>by unfold KD;rw[hcg _ (.inl rfl) h]) (λr hr h=>by unfold KD;rw[hcg _ (.inr hr) h])];rfl
theorem Gv{n:PN}(hb:isB b)(h:ND b=some n):∃t,decP b= .ok t/\nodeOfP t=some n/\NR n=true:=by
 rw[RQ hb]at h;cases hd:decP b with
 |bad e=>rw[hd]at h;cases h
 |ok t=>
  rw[hd]at h;dsimp only at h;cases hn:nodeOfP t with
  |none=>rw[hn]at h;cases h
  |some m=>
   rw[hn]at h;dsimp only at h;by_cases hr:NR m=true
   ·rw[Ai hr]at h;cases h;exact⟨t,rfl,hn,hr⟩
   ·rw[Ae hr]at h;cases h
theorem YE{t:T}{n:PN}(hb:isB b)(hd:decP b= .ok t)(hn:nodeOfP t=some n)(hr:NR n=true):ND b=some n:=by
 rw[RQ hb,hd];dsimp only;rw[hn];dsimp only;rw[Ai hr]
theorem NM{n:PN}(h:NR n=true):n.k=1∨n.k=2∨n.k=3:=by
 unfold NR nright knownP at h;simp only[BN,Bool.or_eq_true,Dv]at h;omega
theorem Jv(h:KD b≠0):∃n,ND b=some n/\n.k=KD b:=by
 unfold KD at h⊢;cases hq:ND b with
 |none=>rw[hq]at h;exact absurd rfl h
 |some n=>exact⟨n,rfl,rfl⟩
def OkD(D:Nat)(t:T):Prop:=∀d w,d<=D->w+(enc t).length<=16777215->(wk t d w).2=0/\(wk t d w).1<=w+(enc t).length
theorem OkD.mono{E:Nat}{t:T}(h:OkD D t)(he:E<=D):OkD E t:=λd w hd hw=>h d w (by omega) hw
theorem NN(bs:List Int):max bs.length 1<=(enc (.mk false bs [])).length:=by
 have h1:=Jr (.mk false bs []);have h2:=FE (.mk false bs []);rw[show bodyOf (.mk false bs [])=bs from by rw[bodyOf,T.bs,T.its,Cr,A4]]at h2;omega
theorem GQ(D:Nat)(bs:List Int):OkD D (.mk false bs []):=λd w hd hw=>by
 have hl:=NN bs;have hwt:wt false bs d=max bs.length 1:=by unfold wt;simp
 rw[Ji,Ae (by simp),Ae (by simp[wrongForm]),hwt,Ae (by omega),E1];exact⟨rfl,by dsimp only;omega⟩
theorem UV{D:Nat}:∀{ts:List T},(∀t∈ts,OkD D t)->∀d w,d<=D->w+(encs ts).length<=16777215->(wks ts d w).2=0/\(wks ts d w).1<=w+(encs ts).length
 |[],_,d,w,_,_=>by rw[E1];exact⟨rfl,by simp⟩
 |t::r,h,d,w,hd,hw=>by
  rw[C7,Ab]at hw⊢;obtain⟨h1,h2⟩:=h t (by simp) d w hd (by omega);rw[FB,Ai h1];obtain⟨h3,h4⟩:=UV (λu hu=>h u (AN _ hu)) d (wk t d w).1 hd (by omega);exact⟨h3,by omega⟩
theorem RU(hD:D<=7)(h:∀t∈ts,OkD (D+1) t):OkD D (.mk true [] ts):=λd w hdd hw=>by
 have he:(enc (.mk true [] ts)).length=(hd 192 (encs ts).length).length+(encs ts).length:=by rw[WZ (t:= .mk true [] ts) rfl rfl,Ab];rfl
 have hp:=NL 192 (encs ts).length;have hwt:wt true [] d<=1:=by unfold wt;split<;>simp
 rw[Ji,Ae (by simp;omega),Ae (by simp[wrongForm]),Ae (by omega)];obtain⟨h1,h2⟩:=UV h (d+1) (w+wt true [] d) (by omega) (by omega);exact⟨h1,by omega⟩
theorem Yo{t:T}(h:OkD D t)(hf:form t=true)(hl:(enc t).length<=16777215):(mP t).2=0:=by
 have h0:=(h 0 0 (by omega) (by omega)).1;have hb:=FE t;unfold mP;rw[Ae (by rw[h0];simp),Ae (by rw[Jj hf];omega)]
theorem RX{bs:List Int}(h:bs.length<=65536):(mP (.mk false bs [])).2=0:=by
 refine Yo (GQ 0 bs) (by rw[Gu];simp[EH]) ?_;rw[Ew,Cr,A4];have:=RP (base:=baseOf false) (n:=bs.length) (by omega);split
 ·omega
 ·rw[Ab];omega
theorem Gd{dk:List Int->Int}{r:PR}(h:rrefP dk r=true):(r.k=0/\r.d=z32/\r.i=[])∨(r.k=2/\r.i=[])∨(r.k=1/\r.d=z32/\r.i.length<32/\dk r.i≠0):=by
 unfold rrefP at h;by_cases h0:r.k=0
 ·simp[h0]at h;exact .inl ⟨h0,h.1,h.2⟩
 ·by_cases h2:r.k=2
  ·simp[h2]at h;exact .inr (.inl ⟨h2,h⟩)
  ·by_cases h1:r.k=1
   ·simp[h1]at h;exact .inr (.inr ⟨h1,h.1.1,h.1.2,h.2⟩)
   ·simp[h0,h1,h2]at h
theorem Gw{t:T}{n:PN}(hb:isB b)(hd:decP b= .ok t)(hn:nodeOfP t=some n):t.l=true/\t.bs=[]/\forms t.its=true:=Kv (GP hb hd).2.2 (Kw hn).1
theorem PR.ext{a b:PR}(h1:a.k=b.k)(h2:a.d=b.d)(h3:a.i=b.i):a=b:=by cases a;cases b;simp_all
theorem PN.ext{a b:PN}(h1:a.k=b.k)(h2:a.p=b.p)(h3:a.v=b.v)(h4:a.c=b.c)(h5:a.ks=b.ks):a=b:=by cases a;cases b;simp_all
theorem Jw{r:PR}(ho:okR r)(h:rrefP KD r=true):refOfP (refItemP r)=some r/\(mP (refItemP r)).2=0/\(enc (refItemP r)).length<=36:=by
 rcases Gd h with⟨h1,h2,h3⟩|⟨h1,h2⟩|⟨h1,h2,h3,h4⟩
 ·have e:refItemP r=t0:=by unfold refItemP;rw[Ae (by omega),Ae (by omega)]
  rw[e];refine⟨?_,RX (by simp),by decide+kernel⟩;unfold refOfP;rw[Ae (by simp[t0,T.l]),Ai (by rfl)];exact Au some (PR.ext h1.symm h2.symm h3.symm)
 ·have e:refItemP r= .mk false r.d []:=by unfold refItemP;rw[Ae (by omega),Ai h1]
  rw[e];have hl:=ho.2.1;refine⟨?_,RX (by omega),?_⟩
  ·unfold refOfP;rw[Ae (by simp[T.l]),Ae (by show¬r.d.length=0;omega),Ai (by exact hl)];exact Au some (PR.ext h1.symm rfl h2.symm)
  ·rw[Ew,Cr,A4];have:=RP (base:=baseOf false) (n:=r.d.length) (by omega);split
   ·omega
   ·rw[Ab];omega
 ·obtain⟨m,hm,_⟩:=Jv h4;obtain⟨t,hd,hn,hr⟩:=Gv ho.2.2 hm;have e:refItemP r=t:=by unfold refItemP;rw[Ai h1,hd]
  rw[e];obtain⟨e1,e2,e3⟩:=GP ho.2.2 hd;refine⟨?_,e2,by rw[e1];omega⟩;unfold refOfP;rw[Ai (Gw ho.2.2 hd hn).1,Ai e2,e1];exact Au some (PR.ext h1.symm h2.symm rfl)
theorem G6(hf:form u=true)(h:¬u.l=true):u= .mk false u.bs []:=by
 obtain⟨l,bs,its⟩:=u;have hl:l=false:=by simpa[T.l]using h
 subst hl;rw[Eu hf];rfl
theorem Jy{r:PR}(hf:form u=true)(h:refOfP u=some r):refItemP r=u/\(u.l=true->(mP u).2=0/\r=⟨1,z32,enc u⟩)/\(¬u.l=true->r.k≠1):=by
 unfold refOfP at h;by_cases hl:u.l=true
 ·rw[Ai hl]at h;by_cases hm:(mP u).2=0
  ·rw[Ai hm]at h;cases h;refine⟨?_,λ_=>⟨hm,rfl⟩,λh=>absurd hl h⟩;unfold refItemP;rw[Ai rfl,KZ hm]
  ·rw[Ae hm]at h;cases h
 ·rw[Ae hl]at h;have ht:=G6 hf hl;by_cases h0:u.bs.length=0
  ·rw[Ai h0]at h;cases h;refine⟨?_,λh=>absurd h hl,λ_=>by show(0:Int)≠1;decide⟩;rw[ht,A3 h0];rfl
  ·rw[Ae h0]at h;by_cases h32:u.bs.length=32
   ·rw[Ai h32]at h;cases h;refine⟨?_,λh=>absurd h hl,λ_=>by show(2:Int)≠1;decide⟩;rw[ht];rfl
   ·rw[Ae h32]at h;cases h
theorem ML:∀{ks:List PR},(∀r∈ks,refOfP (refItemP r)=some r)->kidsP (ks.map refItemP)=some ks
 |[],_=>rfl
 |r::l,h=>by rw[BX,kidsP,h r (by simp),ML λx hx=>h x (AN _ hx)]
theorem MM:∀{ts:List T}{ks:List PR},(∀t∈ts,form t=true)->kidsP ts=some ks->ks.map refItemP=ts
 |[],ks,_,h=>by cases h;rfl
 |t::l,ks,hf,h=>by
  rw[kidsP]at h;cases hr:refOfP t with
  |none=>rw[hr]at h;cases h
  |some a=>
   rw[hr]at h;dsimp only at h;cases hk:kidsP l with
   |none=>rw[hk]at h;cases h
   |some l'=>
    rw[hk]at h;cases h;rw[BX,(Jy (hf t (by simp)) hr).1,MM (λu hu=>hf u (AN _ hu)) hk]
theorem Jz{n:PN}(h:NR n=true):(n.k=1/\n.p.length<=64/\rightP n.p=true/\0<n.v.length/\n.v.length<=256/\rrefP KD n.c=true/\n.c.k=0/\n.ks=[])∨
 (n.k=2/\0<n.p.length/\n.p.length<=64/\rightP n.p=true/\n.v=[]/\rrefP KD n.c=true/\(n.c.k=2∨KD n.c.i=3)/\n.ks=[])∨
 (n.k=3/\n.p=[]/\n.v.length<=256/\rrefP KD n.c=true/\n.c.k=0/\n.ks.length=16/\(∀r∈n.ks,rrefP KD r=true)/\2<=(if 0<n.v.length then 1 else 0)+ways n.ks):=by
 have hk:=NM h;unfold NR nright rpathP rvalueP rchildP rkidsP at h;have hch:rrefP KD n.c=true:=by
  cases hq:rrefP KD n.c with
  |true=>rfl
  |false=>rw[hq]at h;simp at h
 rcases hk with hk|hk|hk
 ·left;simp[hk,hch]at h;obtain⟨⟨⟨⟨_,h1,h2⟩,h3,h4⟩,h5⟩,h6⟩:=h;exact⟨hk,h1,h2,Bx.2 h3,h4,hch,h5,h6⟩
 ·right;left;simp[hk,hch]at h;obtain⟨⟨⟨⟨_,h1,h2,h3⟩,h4⟩,h5⟩,h6⟩:=h;exact⟨hk,Bx.2 h1,h2,h3,h4,hch,h5,h6⟩
 ·right;right;simp[hk,hch]at h;obtain⟨⟨⟨⟨_,h1⟩,h2⟩,h3⟩,h4,h5,h6⟩:=h;exact⟨hk,h1,h2,hch,h3,h4,h5,by simpa using h6⟩
theorem MN:∀{ts:List T}{ks:List PR},kidsP ts=some ks->∀u∈ts,∃r∈ks,refOfP u=some r
 |[],ks,h,u,hu=>by cases hu
 |t::l,ks,h,u,hu=>by
  rw[kidsP]at h;cases hr:refOfP t with
  |none=>rw[hr]at h;cases h
  |some a=>
   rw[hr]at h;dsimp only at h;cases hk:kidsP l with
   |none=>rw[hk]at h;cases h
   |some l'=>
    rw[hk]at h;cases h;rcases AP.1 hu with rfl|hu
    ·exact⟨a,by simp,hr⟩
    ·obtain⟨r,h1,h2⟩:=MN hk u hu;exact⟨r,by simp[h1],h2⟩
theorem LK:∀its:List T,its.length<=(encs its).length
 |[]=>by simp
 |t::r=>by
  have:=Jr t;have:=LK r;rw[C7,Ab,AU];omega
theorem J0:∀{its:List T}{u:T},u∈its->(enc u).length+its.length<=(encs its).length+1
 |t::r,u,hu=>by
  rw[C7,Ab,AU];have:=Jr t;rcases AP.1 hu with rfl|hu
  ·have:=LK r;omega
  ·have:=J0 hu;omega
theorem YF{its:List T}(h:its.length=2):its=[its.getD 0 t0,its.getD 1 t0]:=by
 match its,h with
 |[x,y],_=>rfl
theorem NO{its:List T}(h:its.length=17):its=its.take 16++[its.getD 16 t0]:=by
 have h1:its.drop 16=[its.getD 16 t0]:=by
  rw[Bz (by omega),Bq (by omega),List.getD,Ac (by omega)];rfl
 rw[<-h1,Be]
theorem J1{t:T}{n:PN}(hf:forms t.its=true)(h:nodeOfP t=some n):
 (∃x y,t.its=[x,y]/\x= .mk false x.bs []/\(unpP x.bs).2.2=0/\(((unpP x.bs).2.1=true/\y= .mk false y.bs []/\n=⟨1,(unpP x.bs).1,y.bs,r0,[]⟩)∨((unpP x.bs).2.1=false/\∃c,refOfP y=some c/\form y=true/\n=⟨2,(unpP x.bs).1,[],c,[]⟩)))∨
 (∃ts y ks,t.its=ts++[y]/\ts.length=16/\y= .mk false y.bs []/\kidsP ts=some ks/\(∀u∈ts,form u=true)/\n=⟨3,[],y.bs,r0,ks⟩):=by
 unfold nodeOfP at h;by_cases h2:t.its.length=2
 ·rw[Ai h2]at h;left;have hit:=YF h2;generalize t.its.getD 0 t0=x at h hit;generalize t.its.getD 1 t0=y at h hit;have fx:=Du hf x (by rw[hit];simp);have fy:=Du hf y (by rw[hit];simp);unfold pathP at h;by_cases hb:x.l=true∨(unpP x.bs).2.2≠0
  ·rw[Ai hb]at h;cases h
  ·rw[Ae hb]at h;have hxl:¬x.l=true:=λe=>hb (.inl e);have hxe:(unpP x.bs).2.2=0:=Decidable.byContradiction λe=>hb (.inr e);refine⟨x,y,hit,G6 fx hxl,hxe,?_⟩;by_cases hl:(unpP x.bs).2.1=true
   ·rw[Ai hl]at h;by_cases hy:y.l=true
    ·rw[Ai hy]at h;cases h
    ·rw[Ae hy]at h;cases h;exact .inl ⟨hl,G6 fy hy,rfl⟩
   ·rw[Ae hl]at h;cases hq:refOfP y with
    |none=>rw[hq]at h;cases h
    |some c=>
     rw[hq]at h;cases h;exact .inr ⟨by simpa using hl,c,rfl,fy,rfl⟩
 ·rw[Ae h2]at h;by_cases h17:t.its.length=17
  ·rw[Ai h17]at h;right;have hit:=NO h17;have hl16:(t.its.take 16).length=16:=(by rw[Am];omega);generalize t.its.take 16=ts at h hit hl16;generalize t.its.getD 16 t0=y at h hit;have fy:=Du hf y (by rw[hit];simp);unfold branchP at h;cases hk:kidsP ts with
   |none=>rw[hk]at h;cases h
   |some ks=>
    rw[hk]at h;dsimp only at h;by_cases hy:y.l=true
    ·rw[Ai hy]at h;cases h
    ·rw[Ae hy]at h;cases h;exact⟨ts,y,ks,hit,hl16,G6 fy hy,hk,λu hu=>Du hf u (by rw[hit];simp[hu]),rfl⟩
  ·rw[Ae h17]at h;cases h
theorem LL{y:T}(h:y= .mk false y.bs []):¬y.l=true:=by rw[h];simp[T.l]
theorem RY{t:T}(hb:isB b)(h:decP b= .ok t)(hu:u∈t.its):isB (enc u):=λx hx=>hb x ((Ju hb h hu).2 x hx)
theorem J2{t:T}{m:PN}(hb:isB i)(hm:ND i=some m)(hd':decP i= .ok t)(hu:u∈t.its)(hl:u.l=true):
 ∃m',ND (enc u)=some m'/\decP (enc u)= .ok u/\isB (enc u)/\((m.k=2/\m'.k=3/\(enc u).length+2<=i.length)∨(m.k=3/\(enc u).length+17<=i.length)):=by
 obtain⟨t',e1,hn,hr⟩:=Gv hb hm;rw[hd']at e1;cases e1;obtain⟨e1,e2,e3⟩:=GP hb hd';obtain⟨l1,l2,l3⟩:=Gw hb hd' hn;have hlen:i.length=(hd 192 (encs t.its).length).length+(encs t.its).length:=by rw[<-e1,WZ l1 l2,Ab]
 have hp:=NL 192 (encs t.its).length;have hml:=J0 hu;have hbu:=RY hb hd' hu;rcases J1 l3 hn with⟨x,y,hit,hx,_,hc⟩|⟨ts,y,ks,hit,h16,hy,hk,hfs,rfl⟩
 ·have hit2:t.its.length=2:=by rw[hit];rfl
  rw[hit]at hu;simp only[AP,Cj,Et]at hu;rcases hu with rfl|rfl
  ·exact absurd hl (LL hx)
  ·rcases hc with⟨_,hy,_⟩|⟨_,c,hc,hf,rfl⟩
   ·exact absurd hl (LL hy)
   ·obtain⟨hmu,hcr⟩:=(Jy hf hc).2.1 hl;rcases Jz hr with h|h|h
    ·exact absurd h.1 (by simp)
    ·obtain⟨_,_,_,_,_,_,hcc,_⟩:=h;rw[hcr]at hcc;have hk3:KD (enc u)=3:=by
      rcases hcc with hcc|hcc
      ·exact absurd hcc (by simp)
      ·exact hcc
     obtain⟨m',hm',hk'⟩:=Jv (b:=enc u) (by rw[hk3];decide);exact⟨m',hm',KZ hmu,hbu, .inl ⟨rfl,by rw[hk',hk3],by omega⟩⟩
    ·exact absurd h.1 (by simp)
 ·have hit2:t.its.length=17:=by rw[hit,Ab,h16];rfl
  rw[hit]at hu;rcases Bc.1 hu with hu|hu
  ·obtain⟨r,hr1,hr2⟩:=MN hk u hu;obtain⟨hmu,hcr⟩:=(Jy (hfs u hu) hr2).2.1 hl;rcases Jz hr with h|h|h
   ·exact absurd h.1 (by simp)
   ·exact absurd h.1 (by simp)
   ·obtain⟨_,_,_,_,_,_,hall,_⟩:=h;have:=hall r hr1;rw[hcr]at this;rcases Gd this with h|h|h
    ·exact absurd h.1 (by show¬(1:Int)=0;decide)
    ·exact absurd h.1 (by show¬(1:Int)=2;decide)
    ·obtain⟨m',hm',_⟩:=Jv (b:=enc u) h.2.2.2;exact⟨m',hm',KZ hmu,hbu, .inr ⟨rfl,by omega⟩⟩
  ·simp only[AP,Cj,Et]at hu;subst hu;exact absurd hl (LL hy)
theorem La{t:T}{m:PN}(hb:isB i)(hm:ND i=some m)(hd':decP i= .ok t)(hD:D<=7)(h:∀u∈t.its,u.l=true->OkD (D+1) u):OkD D t:=by
 obtain⟨t',e1,hn,hr⟩:=Gv hb hm;rw[hd']at e1;cases e1;obtain⟨l1,l2,l3⟩:=Gw hb hd' hn;obtain⟨l,bs,its⟩:=t;simp only[T.l,T.bs,T.its]at l1 l2 l3 h;subst l1 l2;refine RU hD λu hu=>?_;by_cases hl:u.l=true
 ·exact h u hu hl
 ·rw[G6 (Du l3 u hu) hl];exact GQ _ _
theorem ZI{t:T}{m:PN}(hb:isB i)(hm:ND i=some m)(hd':decP i= .ok t)(hk:m.k=3)(hl:i.length<=16):OkD 7 t:=by
 refine La hb hm hd' (Aa _) λu hu hul=>?_;obtain⟨m',_,_,_,h|h⟩:=J2 hb hm hd' hu hul
 ·omega
 ·omega
theorem ZH{t:T}{m:PN}(hb:isB i)(hm:ND i=some m)(hd':decP i= .ok t)(hl:i.length<=16):OkD 6 t:=by
 refine La hb hm hd' (by omega) λu hu hul=>?_;obtain⟨m',h1,h2,h3,h|h⟩:=J2 hb hm hd' hu hul
 ·exact ZI h3 h1 h2 h.2.1 (by omega)
 ·omega
theorem ZJ{t:T}{m:PN}(hb:isB i)(hm:ND i=some m)(hd':decP i= .ok t)(hk:m.k=3)(hl:i.length<=33):OkD 5 t:=by
 refine La hb hm hd' (by omega) λu hu hul=>?_;obtain⟨m',h1,h2,h3,h|h⟩:=J2 hb hm hd' hu hul
 ·omega
 ·exact ZH h3 h1 h2 (by omega)
theorem ZK{t:T}{m:PN}(hb:isB i)(hm:ND i=some m)(hd':decP i= .ok t)(hl:i.length<=33):OkD 4 t:=by
 refine La hb hm hd' (by omega) λu hu hul=>?_;obtain⟨m',h1,h2,h3,h|h⟩:=J2 hb hm hd' hu hul
 ·exact ZJ h3 h1 h2 h.2.1 (by omega)
 ·exact(ZH h3 h1 h2 (by omega)).mono (by omega)
theorem UW{r:PR}(ho:okR r)(h:rrefP KD r=true):OkD 4 (refItemP r)/\form (refItemP r)=true:=by
 refine⟨?_,(Jo (Jw ho h).2.1).2.2⟩;rcases Gd h with⟨h1,h2,h3⟩|⟨h1,h2⟩|⟨h1,h2,h3,h4⟩
 ·have e:refItemP r=t0:=by unfold refItemP;rw[Ae (by omega),Ae (by omega)]
  rw[e];exact GQ _ _
 ·have e:refItemP r= .mk false r.d []:=by unfold refItemP;rw[Ae (by omega),Ai h1]
  rw[e];exact GQ _ _
 ·obtain⟨m,hm,_⟩:=Jv h4;obtain⟨t,hd',hn,hr⟩:=Gv ho.2.2 hm;have e:refItemP r=t:=by unfold refItemP;rw[Ai h1,hd']
  rw[e];exact ZK ho.2.2 hm hd' (by omega)
theorem IR(bs:List Int):form (.mk false bs [])=true:=by rw[Gu];simp[EH]
theorem J3{bs:List Int}(h:bs.length<=65536):(enc (.mk false bs [])).length<=bs.length+4:=by
 rw[Ew,Cr,A4];have:=RP (base:=baseOf false) (n:=bs.length) (by omega);split
 ·omega
 ·rw[Ab];omega
theorem RZ{c:Nat}:∀{ts:List T},(∀t∈ts,(enc t).length<=c)->(encs ts).length<=c*ts.length
 |[],_=>by rw[Cr];simp
 |t::r,h=>by
  have:=h t (by simp);have:=RZ λu hu=>h u (AN _ hu);rw[C7,Ab,AU,Nat.mul_succ];omega
theorem IS(h:∀t∈ts,OkD 4 t/\form t=true)(hl:(encs ts).length<=65536):(mP (.mk true [] ts)).2=0/\(enc (.mk true [] ts)).length<=65540:=by
 have he:enc (.mk true [] ts)=hd 192 (encs ts).length++encs ts:=WZ (t:= .mk true [] ts) rfl rfl;have hle:=RP (base:=192) (n:=(encs ts).length) (by omega);have hlen:(enc (.mk true [] ts)).length<=65540:=by rw[he,Ab];omega
 refine⟨Yo (D:=3) (RU (by omega) λt ht=>(h t ht).1) ?_ (by omega),hlen⟩;rw[Gu,Ai rfl,OC λt ht=>(h t ht).2];rfl
theorem MO{p:List Int}(leaf:Bool)(h:p.length<=64):(packP p leaf).1.length<=33:=by
 unfold packP;split
 ·dsimp only;rw[Ni.pack_len];omega
 ·simp
theorem Fu{n:PN}(ho:okN n)(h:NR n=true):(mP (itemP n)).2=0/\nodeOfP (itemP n)=some n/\(enc (itemP n)).length<=65540:=by
 obtain⟨ho1,ho2,ho3,ho4⟩:=ho;rcases Jz h with⟨hk,h1,h2,h3,h4,h5,h6,h7⟩|⟨hk,h1,h2,h3,h4,h5,h6,h7⟩|⟨hk,h1,h2,h3,h4,h5,h6,h7⟩
 ·have e:itemP n= .mk true [] [.mk false (packP n.p true).1 [], .mk false n.v []]:=by unfold itemP;rw[Ae (by omega),Ai hk]
  rw[e];have hpl:=MO true h1
  obtain⟨r1,r2⟩:=IS (ts:=[.mk false (packP n.p true).1 [], .mk false n.v []]) (λt ht=>by
   simp only[AP,Cj,Et]at ht;rcases ht with rfl|rfl<;>exact⟨GQ _ _,IR _⟩) (by
   have a1:=J3 (bs:=(packP n.p true).1) (by omega);have a2:=J3 (bs:=n.v) (by omega);rw[C7,C7,Cr,Ab,Ab,CB];omega)
  refine⟨r1,?_,r2⟩;unfold nodeOfP;rw[Ai (by rfl)];have hu:unpP (packP n.p true).1=(n.p,true,0):=by rw[Ni.packP_yes h2];exact Ni.unp_pack ho1 h2
  unfold pathP;show(if(false=true)∨(unpP (packP n.p true).1).2.2≠0 then none else if(unpP (packP n.p true).1).2.1=true then(if false=true then none else some (⟨1,(unpP (packP n.p true).1).1,n.v,r0,[]⟩:PN))else _)=some n;rw[hu,Ae (by simp),Ai rfl,Ae (by simp)];have hc:n.c=r0:=by
   rcases Gd h5 with c|c|c
   ·exact PR.ext c.1 c.2.1 c.2.2
   ·omega
   ·omega
  exact Au some (PN.ext hk.symm rfl rfl hc.symm h7.symm)
 ·have e:itemP n= .mk true [] [.mk false (packP n.p false).1 [],refItemP n.c]:=by unfold itemP;rw[Ae (by omega),Ae (by omega)]
  rw[e];have hpl:=MO false h2;obtain⟨b1,b2,b3⟩:=Jw ho3 h5
  obtain⟨r1,r2⟩:=IS (ts:=[.mk false (packP n.p false).1 [],refItemP n.c]) (λt ht=>by
   simp only[AP,Cj,Et]at ht;rcases ht with rfl|rfl
   ·exact⟨GQ _ _,IR _⟩
   ·exact UW ho3 h5) (by
   have a1:=J3 (bs:=(packP n.p false).1) (by omega);rw[C7,C7,Cr,Ab,Ab,CB];omega)
  refine⟨r1,?_,r2⟩;unfold nodeOfP;rw[Ai (by rfl)];have hu:unpP (packP n.p false).1=(n.p,false,0):=by rw[Ni.packP_yes h3];exact Ni.unp_pack ho1 h3
  unfold pathP
  show(if(false=true)∨(unpP (packP n.p false).1).2.2≠0 then none else if(unpP (packP n.p false).1).2.1=true then _ else match refOfP (refItemP n.c)with
   |none=>none
   |some c=>some (⟨2,(unpP (packP n.p false).1).1,[],c,[]⟩:PN))=some n
  rw[hu,b1,Ae (by simp),Ae (by simp)];exact Au some (PN.ext hk.symm rfl h4.symm rfl h7.symm)
 ·have e:itemP n= .mk true [] (n.ks.map refItemP++[.mk false n.v []]):=by unfold itemP;rw[Ai hk]
  rw[e];have hmk:∀t∈n.ks.map refItemP,∃r∈n.ks,refItemP r=t:=λt ht=>BD.1 ht
  obtain⟨r1,r2⟩:=IS (ts:=n.ks.map refItemP++[.mk false n.v []]) (λt ht=>by
   rcases Bc.1 ht with ht|ht
   ·obtain⟨r,hr,rfl⟩:=hmk t ht;exact UW (ho4 r hr) (h6 r hr)
   ·simp only[AP,Cj,Et]at ht;subst ht;exact⟨GQ _ _,IR _⟩) (by
   have a1:=J3 (bs:=n.v) (by omega)
   have a2:=RZ (c:=36) (ts:=n.ks.map refItemP) (λt ht=>by
    obtain⟨r,hr,rfl⟩:=hmk t ht;exact(Jw (ho4 r hr) (h6 r hr)).2.2)
   rw[AZ,h5]at a2;rw[EZ,C7,Cr,Ab,Ab,CB];omega)
  refine⟨r1,?_,r2⟩;unfold nodeOfP;have hl17:(n.ks.map refItemP++[T.mk false n.v []]).length=17:=by simp[h5]
  rw[show(T.mk true [] (n.ks.map refItemP++[T.mk false n.v []])).its=n.ks.map refItemP++[T.mk false n.v []]from rfl,Ae (by omega),Ai hl17];have hl16:(n.ks.map refItemP).length=16:=by simp[h5]
  rw[Cs (by omega),A8 (by omega),List.getD,AS (by omega),hl16];unfold branchP;rw[ML λr hr=>(Jw (ho4 r hr) (h6 r hr)).1];show(if(false=true)then none else some (⟨3,[],n.v,r0,n.ks⟩:PN))=some n;rw[Ae (by simp)];have hc:n.c=r0:=by
   rcases Gd h3 with c|c|c
   ·exact PR.ext c.1 c.2.1 c.2.2
   ·omega
   ·omega
  exact Au some (PN.ext hk.symm h1.symm rfl hc.symm rfl)
def NE(n:PN):List Int:=enc (itemP n)
theorem MP{n:PN}(hb:isB b)(h:ND b=some n):NR n=true/\NE n=b/\decP b= .ok (itemP n):=by
 obtain⟨t,hd',hn,hr⟩:=Gv hb h;obtain⟨e1,e2,e3⟩:=GP hb hd';obtain⟨l1,l2,l3⟩:=Gw hb hd' hn;have he:itemP n=t:=by
  obtain⟨l,bs,its⟩:=t;simp only[T.l,T.bs,T.its]at l1 l2 l3;subst l1 l2;have hbx:∀u∈its,isB (enc u):=λu hu=>RY hb hd' hu;rcases J1 (t:= .mk true [] its) l3 hn with⟨x,y,hit,hx,hxe,hc⟩|⟨ts,y,ks,hit,h16,hy,hk,hfs,rfl⟩
  ·simp only[T.its]at hit;have hxb:isB x.bs:=by
    have:=hbx x (by rw[hit];simp);intro z hz;refine this z ?_;rw[hx,Ew,Cr,A4];split
    ·exact hz
    ·exact Ey _ hz
   have hpu:=Ni.pack_unp hxb hxe;rcases hc with⟨hlf,hy,rfl⟩|⟨hlf,c,hc,hf,rfl⟩
   ·unfold itemP;rw[Ae (by show¬(1:Int)=3;decide),Ai rfl];rw[hlf]at hpu;show T.mk true [] [.mk false (packP (unpP x.bs).1 true).1 [], .mk false y.bs []]=_;rw[hpu,hit,<-hx,<-hy]
   ·unfold itemP;rw[Ae (by show¬(2:Int)=3;decide),Ae (by show¬(2:Int)=1;decide)];rw[hlf]at hpu;show T.mk true [] [.mk false (packP (unpP x.bs).1 false).1 [],refItemP c]=_;rw[hpu,hit,<-hx,(Jy hf hc).1]
  ·simp only[T.its]at hit;unfold itemP;rw[Ai rfl];show T.mk true [] (ks.map refItemP++[.mk false y.bs []])=_;rw[MM hfs hk,hit,<-hy]
 refine⟨hr,?_,by rw[he];exact hd'⟩;unfold NE;rw[he,e1]
theorem YG{n:PN}(ho:okN n)(h:NR n=true)(hb:isB (NE n)):ND (NE n)=some n:=
 YE hb (KZ (Fu ho h).1) (Fu ho h).2.1 h
end Go.Proofs.YtefhepcplempkaaGreat
namespace Go.Proofs.YtefhepcplempkaaGreat
variable {w w' : World} {g : Nat} {y : V}
section
variable {P : Program} {md : Region.Mode} {ops : Array Oper} {Q : Exit → Act → World → Prop} {S : World → Prop} {fuel : Nat} {listed : Array Bool} {a : Act} {w : World}
theorem Bm(i d:Nat)(v:Value){o:Oper}(ho:ops[i]?=some o)(hd:o.dst=some d)(hs:Region.noSelect ops=true)(hf:Region.free md ops listed i=true)(hr:(Region.ready md ops listed).contains i=true)
 (hQ:∀c a w,Q (.panic c) (a.put o.dst v) w->Q (.panic c) a w) (hg:Region.wanted o (yielded ops a.tmps)=true) (hy:∀w,S w->(execOp a.eval o).run P w= .ok (.value v) w) (hS:S w)
 (h:wpAnyH P md ops Q S fuel (listed.setIfInBounds i true) (a.put (some d) v) w):wpAnyH P md ops Q S (fuel+1) listed a w:=
 wpAnyH_take ho hs hf hr hQ (Or.inl ⟨hg,hy⟩) hS (hd▸h)
theorem CE(i d:Nat)(v:Value){rs:List Nat}{w':World}{o:Oper}(ho:ops[i]?=some o)(hd:o.dst=some d)(hg:Region.wanted o (yielded ops a.tmps)=true)(hrun:(execOp a.eval o).run P w= .ok (.value v) w')(hS:S w')
 (h:wpAnyH P md ops Q S fuel (listed.setIfInBounds i true) (a.put (some d) v) w') (hs:AllReadyH P md ops Q S fuel listed a w rs):AllReadyH P md ops Q S fuel listed a w (i::rs):=
 CL ho (λK hK=>by
  rw[Ai hg];unfold Oper.wp;rw[hrun,ES];exact hK _ _ hS (λ_=>hd▸h)) hs
theorem E3(i d:Nat){rs:List Nat}{o:Oper}(ho:ops[i]?=some o)(hd:o.dst=some d)(hg:Region.wanted o (yielded ops a.tmps)=true)(f:FuncId)(args:Array Value)(hrun:(execOp a.eval o).run P w= .ok (.enter f args) w)
 {R:Value->World->Prop} (hc:Calls P f args w λe w'=>∃v,e= .returned v/\R v w') (hSS:∀v w',R v w'->S w') (h:∀v w',R v w'->wpAnyH P md ops Q S fuel (listed.setIfInBounds i true) (a.put (some d) v) w')
 (hs:AllReadyH P md ops Q S fuel listed a w rs):AllReadyH P md ops Q S fuel listed a w (i::rs):=
 CL ho (λK hK=>by
  rw[Ai hg];unfold Oper.wp;rw[hrun,ET];refine hc.mono ?_;rintro e w'⟨v,rfl,hR⟩;exact hK _ _ (hSS v w' hR) (λ_=>hd▸h v w' hR)) hs
end
section
variable {a : Act} {w : World}
theorem Gf{x:Operand}{p:Addr}{v:Value}{o:Oper}(ho:o.op= .load 23 x)(hx:a.eval x= .pointer (some p))(hc:w.cell? p=some v):(execOp a.eval o).run prog w= .ok (.value v) w:=by
 unfold execOp;rw[ho];simp only[hx];go_simp
theorem Dc{x:Operand}{p:Addr}{v:Value}{o:Oper}(ho:o.op= .load 107 x)(hx:a.eval x= .pointer (some p))(hc:w.cell? p=some v):(execOp a.eval o).run prog w= .ok (.value v) w:=by
 unfold execOp;rw[ho];simp only[hx];go_simp
theorem OS{x:Operand}{p:Addr}{v:Value}{o:Oper}(ho:o.op= .load 4 x)(hx:a.eval x= .pointer (some p))(hc:w.cell? p=some v):(execOp a.eval o).run prog w= .ok (.value v) w:=by
 unfold execOp;rw[ho];simp only[hx];go_simp
theorem Ic{x:Operand}{g off:Nat}{v0 v1 v2:Value}{o:Oper}(ho:o.op= .load 109 x)(hx:a.eval x= .pointer (some ⟨g,off,none⟩))(h0:w.cell? ⟨g,off,none⟩=some v0)(h1:w.cell? ⟨g,off+1,none⟩=some v1)(h2:w.cell? ⟨g,off+2,none⟩=some v2):(execOp a.eval o).run prog w= .ok (.value (.agg #[v0,v1,v2])) w:=by
 unfold execOp;rw[ho];simp only[hx];go_simp
theorem Fi{x y:Operand}{g off j m c:Nat}{o:Oper}(ho:o.op= .indexAddr 107 x y)(hx:a.eval x= .slice (some ⟨g,off,none⟩) m c)(hy:a.eval y= .int .i64 j)(hj:j<m):(execOp a.eval o).run prog w= .ok (.value (.pointer (some ⟨g,off+j*3,none⟩))) w:=by
 have hji:(j:Int)<m:=by omega
 unfold execOp;rw[ho];simp only[hx,hy];go_simp
end
theorem below_go{w0:World}(h:Below w0.heap.size w0 w)(hb:Below w.heap.size w w'):Below w0.heap.size w0 w':=h.trans (hb.mono h.size)
theorem AW(hb:Below w.heap.size w w'){o:Nat}{v:Value}(h:w.cell? ⟨g,o,none⟩=some v):w'.cell? ⟨g,o,none⟩=some v:=(hb.cell (p:=⟨g,o,none⟩) (Af h)).trans h
theorem ag_nil(w:World):Ag w none 0 0 []:=⟨.inl ⟨rfl,rfl⟩,λ_=>⟨rfl,rfl⟩,rfl,λx hx=>by cases hx⟩
structure B1(g:Nat)(v:World)(y:V):Prop where
 c0:v.cell? ⟨g,0,none⟩=some (.bool y.l)
 c1:v.cell? ⟨g,1,none⟩=some (.slice y.ba y.bn y.bc)
 c2:v.cell? ⟨g,2,none⟩=some (.slice y.ia y.m y.ic)
theorem B1.go{v v':World}(h:B1 g v y)(hb:Below v.heap.size v v'):B1 g v' y:=⟨AW hb h.c0,AW hb h.c1,AW hb h.c2⟩
theorem EP(w:World)(y:V):B1 w.heap.size (w.alloc (.cells #[.bool y.l, .slice y.ba y.bn y.bc, .slice y.ia y.m y.ic] 109)) y:=by
 have h:=Aj w (.cells #[.bool y.l, .slice y.ba y.bn y.bc, .slice y.ia y.m y.ic] 109);exact⟨by rw[Ad _ _ _ _ _ _ h];rfl,by rw[Ad _ _ _ _ _ _ h];rfl,by rw[Ad _ _ _ _ _ _ h];rfl⟩
theorem below_new(w:World)(o:Obj):Below w.heap.size w (w.alloc o):=(Ak _ _).alloc (Aa _) _
theorem B1.alloc{v:World}(h:B1 g v y)(o:Obj):B1 g (v.alloc o) y:=h.go (below_new v o)
theorem G7{t:T}(h:(mP t).2=0):encP t=(enc t,0):=by unfold encP;rw[Ai h]
theorem NP{t:T}(h:(mP t).2≠0):encP t=([],(mP t).2):=by unfold encP;rw[Ae h]
theorem UX{t:T}(h:(mP t).2=0):(enc t).length<=16777220:=L8 (Jo h).2.1
def Fr(base:Nat)(w:World)(a:Option Addr)(n:Nat):Prop:=∀g off,a=some ⟨g,off,none⟩->0<n->base<=g/\∀o,w.frozen? ⟨g,o,none⟩=false
theorem IT(t:T)(x:V)(w:World)(hli:Lies w t x):
 Calls prog 60 #[.agg #[.bool x.l, .slice x.ba x.bn x.bc, .slice x.ia x.m x.ic]] w λe w'=>(∃a n c,e= .returned (.tuple #[.slice a n c, .int .i64 ((encP t).2:Nat)])/\Ag w' a n c (encP t).1/\Fr w.heap.size w' a n)/\Below w.heap.size w w':=by
 have HLI:=ZQ hli;have HBY:=ZQ (UF t x hli);clear hli;by_cases h0:(mP t).2=0
 ·obtain⟨hm1,hm2,hm3⟩:=Jo h0;have hel:=L8 hm2;have he:encP t=(enc t,0):=by rw[encP,Ai h0]
  rw[he];have HE:=ZQ (Qk t HBY.out hm2);have HF:=ZQ hm3;have HM2:=ZQ hm2;have HM1:=ZQ hm1;have H0:=ZQ h0;obtain⟨en,hen⟩:∃en,enc t=en:=⟨_,rfl⟩;rw[hen]at HE HM1 hel⊢;have HEN:=ZQ hen;obtain⟨n,hn⟩:∃n,en.length=n:=⟨_,rfl⟩;rw[hn]at HM1 hel;have HN:=ZQ hn;have hmk:=run_make_row' (P:=prog) 23 5 (.int .u8 0) 1 underlying23 info5b rfl .i64 .i64 n (by omega) (by omega);clear h0 hm1 hm2 hm3 he hen hn;go_enter func60,ntmps60;go_wp2_with fail;refine(Kt t x _ (Ci ((Ak _ _).alloc (Aa _) _) t x HLI.out)).mono ?_;rintro e w1⟨rfl,hb⟩;rw[HM1.out,H0.out];rw[show((0:Nat):Int)=0 from rfl];have hx:w1.heap[w.heap.size]?=some (.cells #[.bool x.l, .slice x.ba x.bn x.bc, .slice x.ia x.m x.ic] 109):=Below.row hb (Aj _ _);have y0:=cell_alloc (show w1.cell? ⟨w.heap.size,0,none⟩=some (.bool x.l)from by rw[Ad _ _ _ _ _ _ hx];rfl);have y1:=cell_alloc (show w1.cell? ⟨w.heap.size,1,none⟩=some (.slice x.ba x.bn x.bc)from by rw[Ad _ _ _ _ _ _ hx];rfl);have y2:=cell_alloc (show w1.cell? ⟨w.heap.size,2,none⟩=some (.slice x.ia x.m x.ic)from by rw[Ad _ _ _ _ _ _ hx];rfl);have hb1:Below w.heap.size w w1:=((Ak w.heap.size w).alloc (Aa _) _).trans (hb.mono (by simp));have hb2:Below w.heap.size w (w1.alloc (.cells (madeCells #[.int .u8 0] n) 5)):=hb1.alloc hb1.size _;have hrow:Row w1.heap.size (w1.alloc (.cells (madeCells #[.int .u8 0] n) 5)) (List.replicate n 0):=by
   unfold Row;rw[Aj,made_bytes]
  have hcal:=WV t HF.out x w1.heap.size n n (List.replicate n 0) w _ HLI.out hb2 hb1.size hrow (by simp) (Aa _) (by omega) HM2.out (by rw[HEN.out,HN.out];exact Aa _);rw[HEN.out,HN.out,Cc,BL,AL,Bq (by simp),A4]at hcal;have HCAL:=ZQ hcal;have HB1:=ZQ hb1;have HB2:=ZQ hb2;clear hcal hrow hx hb hb1 hb2;go_wp2_with fail;refine HCAL.out.mono ?_;rintro e w2⟨rfl,hr2,ht2⟩;have HR2:=ZQ hr2;have HB3:=ZQ (Touch.below HB2.out ht2 HB1.out.size HB2.out.size);clear hr2 ht2;go_wp2_with fail;go_ret2;refine⟨⟨_,_,_,rfl,?_,?_⟩,HB3.out⟩
  ·exact row_ag HR2.out HN.out HE.out (by omega)
  ·intro g off e _;cases e;exact⟨HB1.out.size,λo=>AY _ _ _ _ _ HR2.out⟩
 ·obtain⟨m1,hm1⟩:∃m1,(mP t).1=m1:=⟨_,rfl⟩;obtain⟨er,her⟩:∃er,(mP t).2=er:=⟨_,rfl⟩;have he:encP t=([],er):=by rw[encP,Ae h0,her]
  rw[he];rw[her]at h0;have hee:((er:Int) !=0)=true:=by rw[BT];omega
  have HM1:=ZQ hm1;have HER:=ZQ her;clear hm1 her h0 he;go_enter func60,ntmps60;go_wp2_with fail;refine(Kt t x _ (Ci ((Ak _ _).alloc (Aa _) _) t x HLI.out)).mono ?_;rintro e w1⟨rfl,hb⟩;rw[HM1.out,HER.out];have HB1:=ZQ (((Ak w.heap.size w).alloc (Aa _) _).trans (hb.mono (by simp)));clear hb;go_wp2_with fail;go_ret2;exact⟨⟨none,0,0,rfl,⟨.inl ⟨rfl,rfl⟩,λ_=>⟨rfl,rfl⟩,rfl,λx hx=>by cases hx⟩,λg off e=>by cases e⟩,HB1.out⟩
theorem LM(w:World)(ty:TypeId)(g m dc:Nat)(a:Addr)(sCap:Nat)(cur:Array Value)(t:TypeId)(cs:List Value)
 (hg:w.heap[g]?=some (.cells cur t (0,0))) (hn:cs.length=m*3) (hsrc:∀j v,cs[j]?=some v->w.cell? (a.add j)=some v) (hfit:cs.length=cur.size) (h1:∀v∈cs,v.oneCell'=true):
 (Builtin.copy_ #[107,107] ty #[.slice (some ⟨g,0,none⟩) m dc, .slice (some a) m sCap]).run prog w= .ok (goInt m) (w.setRow g cs.toArray):=by
 have hl:=run_loadCells_list (P:=prog) w a cs hsrc;have hst:=run_storeCells_at prog g 0 t cs 0 cur w hg (by omega) h1;rw[AM,BL,AL,AM,Bq (by simp[hfit]),A4]at hst;rw[hn]at hl;simp[Builtin.copy_,BE underlying107,Builtin.lenOf,Builtin.firstCells,hl,hst]
theorem Mw(w:World)(ty:TypeId)(g dc:Nat)(a:Option Addr)(sCap:Nat)(ha:a=none->sCap=0):
 (Builtin.copy_ #[107,107] ty #[.slice (some ⟨g,0,none⟩) 0 dc, .slice a 0 sCap]).run prog w= .ok (goInt 0) w:=by
 cases a with
 |none=>
  rw[ha rfl];simp[Builtin.copy_,BE underlying107,Builtin.lenOf,Builtin.firstCells,storeCells]
 |some a=>
  have hl:=run_loadCells_list (P:=prog) w a [] (λj v h=>by simp at h);have hl2:(loadCells a 0).run prog w= .ok #[] w:=by simpa using hl
  simp[Builtin.copy_,BE underlying107,Builtin.lenOf,Builtin.firstCells,storeCells,hl2]
theorem Td{w:World}{ops:Array Oper}{rest:List Oper}{o:Oper}{a:Act}{Q:Exit->Act->World->Prop}(hgd:o.guard=none)(d x:Operand)
 (ho:o.op= .call {callee:= .builtin .copy,args:=#[d,x],argTypes:=#[107,107]}) (v u:Value) (hd:a.eval d=v) (hx:a.eval x=u) {v':Value} {w':World}
 (hr:(Builtin.copy_ #[107,107] o.type #[v,u]).run prog w= .ok v' w') (h:wpList prog ops Q rest (a.put o.dst v') w'):wpList prog ops Q (o::rest) a w:=by
 refine wpList_plain hgd λK hK=>?_;unfold Oper.wp;simp[execOp,ho,resolve,invoke,builtin,hd,hx,hr,Result.andThen];exact hK _ _ h
theorem Kx{w:World}{a:Option Addr}:∀{ts:List T}{k:Nat},LiesAll w ts a k->∃ys:List V,ys.length=ts.length/\∀i y,ys[i]?=some y->∃g off t,At w a (k+i) t g off y
 |[],k,_=>⟨[],rfl,λi y h=>by simp at h⟩
 |t::r,k,h=>by
  obtain⟨⟨g,off,y,h1,h2,h3,h4,h5⟩,hr⟩:=liesAll_cons.1 h;obtain⟨ys,e1,e2⟩:=Kx hr;refine⟨y::ys,by rw[AU,AU,e1],λi z hz=>?_⟩;cases i with
  |zero=>
   have:y=z:=(by simpa using hz);subst this;exact⟨g,off,t,h1,h2,h3,h4,h5⟩
  |succ i=>
   obtain⟨g',off',t',A⟩:=e2 i z (by simpa using hz);rw[show k+1+i=k+(i+1)from by omega]at A;exact⟨g',off',t',A⟩
theorem Te{off:Nat}{ys:List V}(h:∀i y,ys[i]?=some y->w.cell? ⟨g,off+i*3,none⟩=some (.bool y.l)/\w.cell? ⟨g,off+i*3+1,none⟩=some (.slice y.ba y.bn y.bc)/\w.cell? ⟨g,off+i*3+2,none⟩=some (.slice y.ia y.m y.ic)):
 ∀j v,(ys.flatMap V.cells)[j]?=some v->w.cell? ((⟨g,off,none⟩:Addr).add j)=some v:=by
 intro j v hv;rw[BO];have hj:=(Aw.1 hv).1;rw[G5]at hj;obtain⟨y,hy⟩:∃y,ys[j/3]?=some y:=⟨ys[j/3]'(by omega),Ac _⟩;have hs:=MH hy;obtain⟨q0,q1,q2⟩:=h (j/3) y hy;have hlen:(ys.take (j/3)).length=j/3:=by rw[Am];omega
 have hr:j%3=0∨j%3=1∨j%3=2:=by omega
 have hget:∀u,(V.cells y)[j%3]?=some u->(ys.flatMap V.cells)[j]?=some u:=by
  intro u hu;have:=FC (ys.take (j/3)) y (ys.drop (j/3+1)) (j%3) u hu;rw[<-hs,hlen,show j/3*3+j%3=j from by omega]at this;exact this
 rcases hr with e|e|e
 ·have:=hget (.bool y.l) (by rw[e];rfl);rw[hv]at this;rw[CQ this,show off+j=off+j/3*3 from by omega];exact q0
 ·have:=hget (.slice y.ba y.bn y.bc) (by rw[e];rfl);rw[hv]at this;rw[CQ this,show off+j=off+j/3*3+1 from by omega];exact q1
 ·have:=hget (.slice y.ia y.m y.ic) (by rw[e];rfl);rw[hv]at this;rw[CQ this,show off+j=off+j/3*3+2 from by omega];exact q2
theorem Tf(ys:List V):∀v∈ys.flatMap V.cells,v.oneCell'=true:=by
 intro v hv;obtain⟨y,_,hy⟩:=BG.1 hv;exact JV y v hy
theorem UY(a:Option Addr)(m c:Nat)(ts:List T)(hm:m=ts.length/\m<=c/\c<=maxLen/\m<=140737488351232)(w:World)(hall:LiesAll w ts a 0)(hb56:56*m<=281474976710656)(hnil:a=none->c=0):
 Calls prog 116 #[.slice a m c] w λe w'=>∃ys:List V,ys.length=m/\e= .returned (.agg #[.bool true, .slice none 0 0, .slice (some ⟨w.heap.size+1,0,none⟩) m m])/\w'.heap[w.heap.size+1]?=some (.cells (ys.flatMap V.cells).toArray 109)/\(∀i y,ys[i]?=some y->∃g off t,At w a i t g off y)/\Below w.heap.size w w':=by
 obtain⟨hm1,hm2,hm3,hm4⟩:=hm;obtain⟨ys,hy1,hy2⟩:=Kx hall;obtain⟨iI,hi,hz,hsz,hby⟩:=Yl;have hmk:=λw=>run_make (P:=prog) w 107 109 iI _ underlying107 hi hz .i64 .i64 m m (by omega) (by omega) (by rw[hby];omega) (by omega);rw[hsz,Int.toNat_natCast]at hmk;obtain⟨w0,hw0⟩:∃w0,w.alloc (.cells #[.bool false, .slice none 0 0, .slice none 0 0] 109)=w0:=⟨_,rfl⟩;have hs0:w0.heap.size=w.heap.size+1:=by rw[<-hw0];simp
 have hbw0:Below w.heap.size w w0:=by rw[<-hw0];exact below_new _ _
 have hres:w0.heap[w.heap.size]?=some (.cells #[.bool false, .slice none 0 0, .slice none 0 0] 109):=by rw[<-hw0];exact Aj _ _
 obtain⟨MC,hMC⟩:∃MC,madeCells (Value.agg #[.bool false, .slice none 0 0, .slice none 0 0]).cells (m*3)=MC:=⟨_,rfl⟩;rw[hMC]at hmk;have hms:MC.size=m*3:=by rw[<-hMC,size_madeCells]
 have hyl:ys.length=m:=by rw[hy1,hm1]
 obtain⟨w1,hrun,hrow1,hoth,hbel1⟩:∃w1,(∀ty,(Builtin.copy_ #[107,107] ty #[.slice (some ⟨w0.heap.size,0,none⟩) m m, .slice a m c]).run prog (w0.alloc (.cells MC 109))= .ok (goInt m) w1)/\w1.heap[w0.heap.size]?=some (.cells (ys.flatMap V.cells).toArray 109)/\w1.heap[w.heap.size]?=some (.cells #[.bool false, .slice none 0 0, .slice none 0 0] 109)/\Below w0.heap.size w0 w1:=by
  by_cases h0:m=0
  ·subst h0;have hys:ys=[]:=A3 hyl;subst hys;have hMC0:MC=#[]:=Array.eq_empty_of_size_eq_zero (by omega);subst hMC0;exact⟨_,λty=>Mw _ ty _ _ a c hnil,Aj _ _,(Az _ _ _ (by omega)).trans hres,below_new _ _⟩
  ·obtain⟨y0,hy0⟩:∃y,ys[0]?=some y:=⟨ys[0]'(by omega),Ac _⟩;obtain⟨g,off,t,A⟩:=hy2 0 y0 hy0;have ha:=A.ha;subst ha;have hbb:Below w.heap.size w (w0.alloc (.cells MC 109)):=hbw0.alloc (by omega) _
   have hcs:=Te (w:=w0.alloc (.cells MC 109)) (g:=g) (off:=off) (ys:=ys) (λi y h=>by
    obtain⟨g',off',t',A'⟩:=hy2 i y h;have ha':=A'.ha;cases ha';have c0:=A'.c0;have c1:=A'.c1;have c2:=A'.c2;rw[AM]at c0 c1 c2;exact⟨AW hbb c0,AW hbb c1,AW hbb c2⟩)
   refine⟨_,λty=>LM _ ty w0.heap.size m m ⟨g,off,none⟩ c MC 109 (ys.flatMap V.cells) (Aj _ _) (by rw[G5,hyl]) hcs (by rw[G5,hyl,hms]) (Tf ys),AE _ _ _ _ _ _ (Aj _ _),?_,?_⟩
   ·rw[Bf _ _ _ _ (by omega)];exact(Az _ _ _ (by omega)).trans hres
   ·exact Touch.below (below_new _ _) (Touch.setRow _ _ _) (Aa _) (by simp)
 rw[hs0]at hrun hrow1;rw[<-hw0]at hrun;have HRUN:=ZQ hrun;have HROW:=ZQ hrow1;have HB:=ZQ (below_go hbw0 hbel1);have HRES:=ZQ hoth;have x0:w1.cell? ⟨w.heap.size,0,none⟩=some (.bool false):=by rw[Ad _ _ _ _ _ _ hoth];rfl
 have x1:w1.cell? ⟨w.heap.size,1,none⟩=some (.slice none 0 0):=by rw[Ad _ _ _ _ _ _ hoth];rfl
 have x2:w1.cell? ⟨w.heap.size,2,none⟩=some (.slice none 0 0):=by rw[Ad _ _ _ _ _ _ hoth];rfl
 have xf:∀o,w1.frozen? ⟨w.heap.size,o,none⟩=false:=λo=>AY _ _ _ _ _ hoth;have HY:=ZQ hy2;have HYL:=ZQ hyl;clear hrun hrow1 hbel1 hoth hw0 hs0 hbw0 hres hMC hms hall hy1 hy2 hm1 hyl hi hz hsz hby hnil;go_enter func116,ntmps116;go_wp2_with (first|refine Td rfl _ _ rfl _ _ rfl rfl (HRUN.out _) ?_);have hr:=put3 HRES.out (.bool true) (.slice none 0 0) (.slice (some ⟨w.heap.size+1,0,none⟩) m m);refine Aq (Bg results116 _ _ w.heap.size 109 _ (0,0) _ rfl hr underlying109 rfl (by kernel_rfl)) rfl ?_;exact⟨ys,HYL.out,rfl,(D3 (by omega) _ _ _).trans HROW.out,λi y h=>by have:=HY.out i y h;simpa using this,Ch HB.out (Aa _) _ _ _⟩
end Go.Proofs.YtefhepcplempkaaGreat
