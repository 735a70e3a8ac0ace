/- A row of one's own of pairs of slices that grows: it has no cells but slices. -/
import Derived.Test.YtalhnnjpjaeakaaGreatAK
import Derived.Test.YtalhnnjpjaeakaaGreatG12
import Derived.Test.YtalhnnjpjaeakaaGreatG01
import Derived.Lib.Bytealg
import Derived.Laws.Externs
import Derived.Lib.Bytes
import Derived.Maps.AppendAt
import Derived.Deep.DeepAppendWide
import Derived.Test.YtalhnnjpjaeakaaGreatG08
import Derived.Test.YtalhnnjpjaeakaaGreatG10
set_option linter.unusedVariables false
set_option maxRecDepth 100000
set_option maxHeartbeats 8000000
open Go.Proofs.Tryz Go.RowKit
namespace Go.Proofs.YtalhnnjpjaeakaaGreat
open Tr
variable {w w' : World}
def isS(u:Value):Prop:=∃a n c,u= .slice a n c
def SlB(w:World)(v:Value):Prop:=∀k cur T fr,v.ownBlock=some k->w.heap[k]?=some (.cells cur T fr)->∀u∈cur.toList,isS u
theorem ZW{cs:Array Value}(h:∀u∈cs.toList,isS u):¬Pr cs:=by
 rintro⟨j,v,h1,h2⟩;rw[<-BS]at h1;obtain⟨a,n,c,rfl⟩:=h v (AK h1);exact h2 a n c rfl
theorem W4(n:Nat):∀u∈(Builtin.zeroCells #[.slice none 0 0, .slice none 0 0] n).toList,isS u:=by
 intro u hu;unfold Builtin.zeroCells at hu;simp only[Array.toList_map,BE]at hu;obtain⟨i,_,rfl⟩:=hu;rcases(show i%2=0∨i%2=1 by omega)with e|e
 ·exact⟨none,0,0,by simp[e]⟩
 ·exact⟨none,0,0,by simp[e]⟩
theorem SlB.go{v:Value}(h:SlB w v)(hb:Below w.heap.size w w')(ho:∀k,v.ownBlock=some k->k<w.heap.size):SlB w' v:=λk cur T fr hk hh=>h k cur T fr hk (by rw[<-hb.block k (ho k hk)];exact hh)
theorem SlB.nil(w:World):SlB w (.slice none 0 0):=λk cur T fr hk=>by simp[Value.ownBlock]at hk
theorem ZX{P:Program}{base:Nat}{t ty e:TypeId}{i:TypeInfo}(ht:P.underlying t=some (.slice e))(hi:P.info? e=some i)(hz:i.zero=some (.agg #[.slice none 0 0, .slice none 0 0]))(hsize:i.size=2)(hby:i.bytes=48)
 {v:Value} {n:Nat} {xs:List Value} (hown:w.ownsRow base e 2 v n xs) (hs:SlB w v) {a:Addr} {m c:Nat} {news:List Value} (hl:news.length=m*2) (hnews:∀j u,news[j]?=some u->w.cell? (a.add j)=some u) (hsn:∀u∈news,isS u) (hm:0<m)
 (h63:n+m<=maxLen) (hbytes:(n+m)*48<=140737488355328) {v':Value} (hr:(Builtin.append_ #[t,t] ty #[v, .slice (some a) m c]).run P w= .ok v' w'):SlB w' v':=by
 have h1:∀u∈news,u.oneCell'=true:=λu hu=>by obtain⟨_,_,_,rfl⟩:=hsn u hu;rfl
 have hsmall:n+m<=9223372036854775807:=by simp only[maxLen]at h63;omega
 have hxs:∀{g cap:Nat},v= .slice (some ⟨g,0,none⟩) n cap->∀u∈xs,isS u:=by
  intro g cap ev u hu;rcases hown.2 with⟨rfl,rfl⟩|⟨g',cap',cur,rfl,hbg,hg,hnc,hcm,hcs,htake⟩
  ·cases ev
  ·exact hs g' cur e (0,0) rfl hg u (by rw[<-htake]at hu;exact Bi hu)
 have hnew:∀{ys:List Value}{q:Nat},(∀u∈ys,isS u)->∀u∈(ys.toArray++news.toArray++Builtin.zeroCells #[.slice none 0 0, .slice none 0 0] q).toList,isS u:=by
  intro ys q hy u hu;simp only[Array.toList_append,AM]at hu;rcases hu with(hu|hu)|hu
  ·exact hy u hu
  ·exact hsn u hu
  ·exact W4 _ u hu
 have hal:∀{cs:Array Value}{q r:Nat},(∀u∈cs.toList,isS u)->SlB (w.drew.alloc (.cells cs e)) (.slice (some ⟨w.heap.size,0,none⟩) q r):=by
  intro cs q r hcs k cur T fr hk hh;simp only[Value.ownBlock,Cp]at hk;subst hk;rw[show w.heap.size=w.drew.heap.size from rfl,Ai w.drew]at hh;cases hh;exact hcs
 rcases id hown.2 with⟨rfl,rfl⟩|⟨g,cap,cur,rfl,hbg,hg,hnc,hcm,hcs,htake⟩
 ·have hq:=run_append_nil (P:=P) w t ty e i _ ht hi hz a m c news (by rw[hsize];exact hl) hnews hm (by omega) (by rw[hby];omega);rw[hq]at hr;cases hr;refine hal ?_;have:=hnew (ys:=[]) (q:=grownCap w m 0 e-m) (λu hu=>by cases hu);rw[show([]:List Value).toArray=#[]from rfl,Array.empty_append]at this;exact this
 ·by_cases hroom:n+m<=cap
  ·have hfit:n*i.size+news.length<=cur.size:=(by rw[hl,hcs,hsize,<-Nat.add_mul];exact Nat.mul_le_mul_right _ hroom);have hq:=run_append_room (P:=P) w t ty e i ht hi g n cap cur hg a m c news (by rw[hsize];exact hl) hnews h1 hroom hfit;rw[hq]at hr;cases hr;intro k cur' T fr hk hh;simp only[Value.ownBlock,Cp]at hk;subst hk;rw[AA w g cur _ e _ hg]at hh;cases hh;intro u hu;have hcu:=hs g cur e (0,0) rfl hg;simp only[AM]at hu;rcases hu with(hu|hu)|hu
   ·exact hcu u (Bi hu)
   ·exact hsn u hu
   ·exact hcu u (BH hu)
  ·have holds:∀j u,xs[j]?=some u->w.cell? ((⟨g,0,none⟩:Addr).add j)=some u:=hown.cells (g:=g) rfl;have hq:=run_append_grow (P:=P) w t ty e i _ ht hi hz ⟨g,0,none⟩ n cap xs (by rw[hsize];exact hown.1) holds a m c news (by rw[hsize];exact hl) hnews (by omega) (by omega) (by rw[hby];exact growslice_fits (by omega) hbytes);rw[hq]at hr;cases hr;exact hal (hnew (hxs rfl))
end Go.Proofs.YtalhnnjpjaeakaaGreat
namespace Go.Proofs.YtalhnnjpjaeakaaGreat
open Ni (lessP GM)
variable {P : Program} {K K' : Nat → Prop} {w : World} {a a' : Option Addr} {n c n' c' : Nat} {p q : List Int}
theorem I8{P:Program}{w:World}{gb:Nat}:∀(bs:List Int)(off:Nat)(acc:ByteArray),(∀j,j<bs.length->w.cell? ⟨gb,off+j,none⟩=some (.int .u8 (bs.getD j 0)))->(Extern.Bytes.loadBytes ⟨gb,off,none⟩ bs.length acc).run P w= .ok ⟨acc.data++(Lib.bytesOf bs).toArray⟩ w
 |[],off,acc,h=>by
  obtain⟨d⟩:=acc;simp[Extern.Bytes.loadBytes,Lib.bytesOf]
 |x::r,off,acc,h=>by
  have h0:=h 0 (by simp);rw[C5]at h0;have e:(Extern.Bytes.loadBytes ⟨gb,off,none⟩ (x::r).length acc).run P w=(Extern.Bytes.loadBytes ⟨gb,off+1,none⟩ r.length (acc.push x.toNat.toUInt8)).run P w:=by
   rw[AS,Extern.Bytes.loadBytes,Bm,run_load,h0];simp only[List.getD_cons_zero,Result.andThen];rfl
  rw[e,I8 r (off+1) (acc.push x.toNat.toUInt8) (λj hj=>by
   have:=h (j+1) (by simp;omega);rw[show off+1+j=off+(j+1)from by omega,this];simp)]
  obtain⟨d⟩:=acc;simp[Lib.bytesOf,ByteArray.push,Nat.toUInt8]
theorem K6(h:Sk K w a n c p):(Extern.Bytes.bytesOf (.slice a n c)).run P w= .ok ⟨(Lib.bytesOf p).toArray⟩ w:=by
 have hl:=h.len;rcases h.ag.i with⟨h1,h2⟩|⟨gb,off,h1,h2,h3,h4,h5,h7⟩
 ·subst h1;subst h2;cases a with
  |none=>rfl
  |some ad=>rfl
 ·subst h1;have:=I8 (P:=P) p off ByteArray.empty (λj hj=>h7 j (by omega));rw[hl]at this;show(Extern.Bytes.loadBytes ⟨gb,off,none⟩ n ByteArray.empty).run P w=_;rw[this];show Result.ok (⟨(#[]:Array UInt8)++(Lib.bytesOf p).toArray⟩:ByteArray) w=_;rw[Array.empty_append]
theorem Zu{x y:Int}(hx:0<=x/\x<256)(hy:0<=y/\y<256):(UInt8.ofNat x.toNat<UInt8.ofNat y.toNat)↔x<y:=by
 rw[UInt8.lt_iff_toNat_lt,EF,EF];omega
theorem SM:∀p q:List Int,(∀x∈p,0<=x/\x<256)->(∀x∈q,0<=x/\x<256)->Lib.compareBytes (Lib.bytesOf p) (Lib.bytesOf q)=cmpP p q
 |[],[],_,_=>rfl
 |[],y::q,_,_=>by simp[Lib.bytesOf,Lib.compareBytes,cmpP,lessP]
 |x::p,[],_,_=>by simp[Lib.bytesOf,Lib.compareBytes,cmpP,lessP]
 |x::p,y::q,hp,hq=>by
  have hx:=hp x (by simp);have hy:=hq y (by simp);have ih:=SM p q (λz hz=>hp z (A9 _ hz)) (λz hz=>hq z (A9 _ hz));have e:Lib.compareBytes (Lib.bytesOf (x::p)) (Lib.bytesOf (y::q))=if UInt8.ofNat x.toNat<UInt8.ofNat y.toNat then-1 else if UInt8.ofNat y.toNat<UInt8.ofNat x.toNat then 1 else Lib.compareBytes (Lib.bytesOf p) (Lib.bytesOf q):=rfl
  rw[e,ih];simp only[Zu hx hy,Zu hy hx];by_cases h:x=y
  ·subst h;have e2:cmpP (x::p) (x::q)=cmpP p q:=by
    unfold cmpP;simp[lessP]
   rw[e2];simp
  ·have e2:cmpP (x::p) (y::q)=if x<y then-1 else 1:=by
    unfold cmpP;simp[lessP,h]
   rw[e2];by_cases h1:x<y
   ·simp[h1]
   ·rw[Ad h1,Ad h1,Af (by omega)]
theorem Y4(h1:Sk K w a n c p)(h2:Sk K' w a' n' c' q):(Extern.BytealgCompare.compare #[.slice a n c, .slice a' n' c']).run P w= .ok (.int .i64 (cmpP p q)) w:=by
 change Sem.run P (do pure (goInt (Extern.BytealgCompare.cmp (<-Extern.Bytes.bytesOf (.slice a n c)) (<-Extern.Bytes.bytesOf (.slice a' n' c'))))) w=_;simp only[Bm,K6 h1,K6 h2,Bp,Result.andThen];rw[Lib.cmp_eq];show Result.ok (goInt (Lib.compareBytes (Lib.bytesOf p) (Lib.bytesOf q))) w=_;rw[SM p q h1.ag.b h2.ag.b];rfl
theorem ZY{w:World}{ρ:Operand->Value}{o:Oper}{u v r:Value}(x y:Operand)(tys:Array TypeId)(ho:o.op= .call {callee:= .value (.func 62),args:=#[x,y],argTypes:=tys})(hf:ρ (.func 62)= .func (.func 62) #[] #[])(hx:ρ x=u)(hy:ρ y=v)(hr:(Extern.BytealgCompare.compare #[u,v]).run prog w= .ok r w):(execOp ρ o).run prog w= .ok (.value r) w:=by
 unfold execOp;simp only[ho,resolve,hf,Deferred.ofValue,Bm,Bp,AH,Ck,B9,C6,hx,hy,invoke,List.append_toArray,A6,A3];rw[run_callFunc_extern func62 (by kernel_rfl) (by kernel_rfl) (by kernel_rfl) (e:=Extern.BytealgCompare.compare) (by kernel_rfl),hr];rfl
theorem W5(h1:Sk K w a n c p)(h2:Sk K' w a' n' c' q):
 Calls prog 42 #[.slice a n c, .slice a' n' c'] w λe w'=>e= .returned (.int .i64 (cmpP p q))/\w'=w:=by
 refine Dp func42 8<|Hx 9 (og f42 1 2) (.int .i64 (cmpP p q)) (λ_=>ZY _ _ _ rfl rfl (by kernel_rfl) (by kernel_rfl) (Y4 h1 h2)) ?_;exact Hr 4 (.int .i64 (cmpP p q)) ⟨rfl,rfl⟩
end Go.Proofs.YtalhnnjpjaeakaaGreat
namespace Go.Proofs.YtalhnnjpjaeakaaGreat
open Tr
variable {K K' : Nat → Prop} {w w' : World} {a a' : Option Addr} {n c n' c' : Nat} {M M' : List (List Int)} {p p' : Addr} {x y : List Int}
structure Bt(K:Nat->Prop)(w:World)(a:Option Addr)(n:Nat)(M:List (List Int)):Prop where
 len:M.length=n
 row:∀j,j<n->∃g off a' n' c',a=some ⟨g,off,none⟩/\w.cell? ⟨g,off+j*1,none⟩=some (.slice a' n' c')/\Sk K w a' n' c' (M.getD j [])
theorem Bt.go(h:Bt K w a n M)(hb:Below w.heap.size w w'):Bt K w' a n M:=⟨h.len,λj hj=>by
 obtain⟨g,off,a',n',c',h1,h2,h3⟩:=h.row j hj;exact⟨g,off,a',n',c',h1,(hb.cell (p:=⟨g,off+j*1,none⟩) (Aj h2)).trans h2,h3.go hb⟩⟩
structure Two(K K':Nat->Prop)(w:World)(p p':Addr)(a a':Option Addr)(n c n' c':Nat)(x y:List Int):Prop where
 cc:w.cell? p=some (.slice a n c)
 sk:Sk K w a n c x
 cc':w.cell? p'=some (.slice a' n' c')
 sk':Sk K' w a' n' c' y
theorem Two.drew(h:Two K K' w p p' a a' n c n' c' x y):Two K K' w.drew p p' a a' n c n' c' x y:=⟨h.cc,h.sk.drew,h.cc',h.sk'.drew⟩
theorem Two.go(h:Two K K' w p p' a a' n c n' c' x y)(hb:Below w.heap.size w w'):Two K K' w' p p' a a' n c n' c' x y:=⟨(hb.cell (p:=p) (Aj h.cc)).trans h.cc,h.sk.go hb,(hb.cell (p:=p') (Aj h.cc')).trans h.cc',h.sk'.go hb⟩
theorem W6{N:List (List Int)}(h1:M.length=n)(h2:N.length=n)(h:∀i,i<n->M.getD i []=N.getD i []):M=N:=by
 refine List.ext_getElem (by omega) λi hi hj=>?_;have:=h i (by omega);simpa[List.getD,hi,hj]using this
theorem Y5(hX:Bt K w a n M)(hY:Bt K' w a' n' M')(hne:n≠n'):
 Calls prog 19 #[.slice a n c, .slice a' n' c'] w λe w'=>∃u,e= .returned u/\(λu w'=>u= .bool (decide (M=M'))/\Bl w w') u w':=by
 have hB:=Bl.refl w;refine Dp func19 28<|Hb 12 (!((n:Int)==(n':Int))) true (by simp;omega) ?_;exact Hr 10 (.bool false) ⟨_,rfl,by rw[AU (λe=>hne (by rw[<-hX.len,<-hY.len,e]))],hB⟩
theorem Y6(hX:Bt K w a n M)(hY:Bt K' w a' n M')(hn:n<=7600000000002):
 Calls prog 19 #[.slice a n c, .slice a' n c'] w λe w'=>∃u,e= .returned u/\(λu w'=>u= .bool (decide (M=M'))/\Bl w w') u w':=by
 have hB:=Bl.refl w;refine Dp func19 28<|Hb 12 (!((n:Int)==(n:Int))) false (by simp) ?_;refine Ho (X:=Nat) 12 (λj=>[(5, .int .i64 (j:Int)),(0, .slice a n c),(1, .slice a' n c')]) (λj v=>Bl w v/\j<=n/\∀i,i<j->M.getD i []=M'.getD i []) (λj=>n-j) 0 ⟨hB,Ay _,λi hi=>by omega⟩ ?_;clear hB;rintro j v⟨hB,hj,hI⟩ I1 hN1;by_cases hlt:j<n
 ·skip
  obtain⟨g1,o1,a1,n1,c1,e1,hc1,hs1⟩:=(hX.go hB).row j hlt;obtain⟨g2,o2,a2,n2,c2,e2,hc2,hs2⟩:=(hY.go hB).row j hlt;subst e1;subst e2;obtain⟨x,ex⟩:∃x,M.getD j []=x:=⟨_,rfl⟩;obtain⟨y,ey⟩:∃y,M'.getD j []=y:=⟨_,rfl⟩;rw[ex]at hs1;rw[ey]at hs2;have hS:Two K K' v ⟨g1,o1+j*1,none⟩ ⟨g2,o2+j*1,none⟩ a1 a2 n1 c1 n2 c2 x y:=⟨hc1,hs1,hc2,hs2⟩;refine Ht 6 ((j:Int)<(n:Int))<|GK 8 (λv=>Two K K' v ⟨g1,o1+j*1,none⟩ ⟨g2,o2+j*1,none⟩ a1 a2 n1 c1 n2 c2 x y) (hS.drew) ?_;replace hS:=hS.drew;refine Dx [0,1] 2 (og f19 6 2) (.pointer (some ⟨g1,o1+j*1,none⟩)) (λv hv _=>AV 41 _ _ g1 o1 j n c 1 27 rfl (by kernel_rfl) (by kernel_rfl) hlt underlying41 (by kernel_rfl)) hS<|Dx [] 3 (og f19 6 3) (.slice a1 n1 c1) (λv hv _=>AF 27 _ _ _ _ rfl (by kernel_rfl) hv.cc underlying27 rfl) hS<|Dx [] 4 (og f19 6 4) (.string (strOfNums x)) (λv hv _=>hv.sk.run_str _ _ _ rfl (by kernel_rfl)) hS<|Dx [5,6] 7 (og f19 6 7) (.pointer (some ⟨g2,o2+j*1,none⟩)) (λv hv _=>AV 41 _ _ g2 o2 j n c' 1 27 rfl (by kernel_rfl) (by kernel_rfl) hlt underlying41 (by kernel_rfl)) hS<|Dx [] 8 (og f19 6 8) (.slice a2 n2 c2) (λv hv _=>AF 27 _ _ _ _ rfl (by kernel_rfl) hv.cc' underlying27 rfl) hS<|Dx [] 9 (og f19 6 9) (.string (strOfNums y)) (λv hv _=>hv.sk'.run_str _ _ _ rfl (by kernel_rfl)) hS<|Dx [] 10 (og f19 6 10) (.bool (!decide (x=y))) (λv hv _=>Qt 9 _ _ _ _ _ rfl (by kernel_rfl) (by kernel_rfl) (Av Bool.not (IW hS.sk.ag.b hS.sk'.ag.b))) hS<|Do ?_;by_cases hpq:x=y
  ·skip
   rw[show(!decide (x=y))=false from by simp[hpq]];refine Hi 7 ((j:Int)+1) ((j:Int)+1) ?_;replace hB:=hB.drew;exact hN1 2 (j+1) ⟨hB,by omega,λi hi=>(Nat.lt_succ_iff_lt_or_eq.1 hi).elim (λh=>hI i h) (λh=>by rw[h,ex,ey,hpq])⟩ (by show n-(j+1)<n-j;omega) (λ_=>by kernel_rfl)
  ·skip
   rw[show(!decide (x=y))=true from by simp[hpq]];replace hB:=hB.drew;exact Hr 13 (.bool false) ⟨_,rfl,by rw[AU (λe=>hpq (by rw[<-ex,<-ey,e]))],hB⟩
 obtain rfl:j=n:=by omega
 refine Hf 6 ((j:Int)<(j:Int)) ?_;exact Hr 14 (.bool true) ⟨_,rfl,by rw[AT (W6 hX.len hY.len hI)],hB⟩
theorem K7(hX:Bt K w a n M)(hY:Bt K' w a' n' M')(hn:n<=7600000000002):
 Calls prog 19 #[.slice a n c, .slice a' n' c'] w λe w'=>∃u,e= .returned u/\u= .bool (decide (M=M'))/\Bl w w':=by
 by_cases h:n=n'
 ·subst h;exact Y6 hX hY hn
 ·exact Y5 hX hY h
end Go.Proofs.YtalhnnjpjaeakaaGreat
namespace Go.Proofs.YtalhnnjpjaeakaaGreat
open Tr
open Ni (lessP)
variable {K K' : Nat → Prop} {w : World} {a ak : Option Addr} {n c j : Nat} {p q k : List Int} {p' : Addr} {v' : Value} {vs : List (Value × Value)}
theorem Sk.byte(h:Sk K w a n c p)(hj:j<n):∃g off,a=some ⟨g,off,none⟩/\w.cell? ⟨g,off+j*1,none⟩=some (.int .u8 (p.getD j 0)):=by
 rcases h.ag.i with⟨h1,h2⟩|⟨gb,off,h1,h2,h3,h4,h5,h7⟩
 ·omega
 ·exact⟨gb,off,h1,by rw[Ce];exact h7 j (by have:=h.len;omega)⟩
theorem JU(hj:j<p.length):p.drop j=p.getD j 0::p.drop (j+1):=by
 rw[Bq hj];simp[List.getD,hj]
theorem Um(h1:j<p.length)(h2:j<q.length):lessP (p.drop j) (q.drop j)=if p.getD j 0=q.getD j 0 then lessP (p.drop (j+1)) (q.drop (j+1))else decide (p.getD j 0<q.getD j 0):=by
 rw[JU h1,JU h2];rfl
theorem W7(h:¬(j<p.length/\j<q.length))(h1:j<=p.length)(h2:j<=q.length):lessP (p.drop j) (q.drop j)=decide (p.length<q.length):=by
 by_cases e:j=p.length
 ·rw[B5 (by omega)];by_cases e2:j<q.length
  ·rw[JU e2];rw[AT (by omega)];rfl
  ·rw[B5 (by omega),AU (by omega)];rfl
 ·rw[show q.drop j=[]from B5 (by omega),AU (by omega)];cases p.drop j<;>rfl
structure Cl2(w:World)(p p':Addr)(v v':Value):Prop where
 cx:w.cell? p=some v
 cy:w.cell? p'=some v'
theorem Cl2.drew{p:Addr}{v:Value}(h:Cl2 w p p' v v'):Cl2 w.drew p p' v v':=⟨h.cx,h.cy⟩
theorem Cl2.go{w':World}{p:Addr}{v:Value}(h:Cl2 w p p' v v')(hb:Below w.heap.size w w'):Cl2 w' p p' v v':=⟨(hb.cell (p:=p) (Aj h.cx)).trans h.cx,(hb.cell (p:=p') (Aj h.cy)).trans h.cy⟩
theorem W8{l:PList}(hj:j<l.length){e:List Int×List Int}(he:l[j]?=some e):atN k (l.drop j)=if lessP e.1 k then atN k (l.drop (j+1))+1 else 0:=by
 have:l.drop j=e::l.drop (j+1):=by
  rw[Bq hj];rw[Ac hj]at he;simp at he;rw[he]
 rw[this];rfl
theorem SN{l:PList}(h:atN k l=j){e:List Int×List Int}(he:l[j]?=some e):isAt k l=decide (e.1=k):=by
 unfold isAt;rw[h,he]
theorem J5{l:PList}(h:atN k l=l.length):isAt k l=false:=by
 unfold isAt;rw[h,Eh (Aa _)]
theorem JV{a':Option Addr}{n' c':Nat}(hp:Sk K w a n c p)(hq:Sk K' w a' n' c' q)(hn:n<=1000000):
 Calls prog 53 #[.slice a n c, .slice a' n' c'] w λe w'=>∃u,e= .returned u/\(λu w'=>u= .bool (lessP p q)/\Bl w w') u w':=by
 have hB:=Bl.refl w;have lp:=hp.len;have lq:=hq.len;refine Dp func53 41<|Ho (X:=Nat) 12 (λj=>[(5, .int .i64 (j:Int)),(0, .slice a n c),(1, .slice a' n' c')]) (λj v=>Bl w v/\j<=n/\j<=n'/\lessP (p.drop j) (q.drop j)=lessP p q) (λj=>n-j) 0 ⟨hB,Ay _,Ay _,by simp⟩ ?_;clear hB;rintro j v⟨hB,hj1,hj2,hL⟩ I1 hN1;by_cases hlt:j<n/\j<n'
 ·skip
  obtain⟨g1,o1,e1,hc1⟩:=(hp.go hB).byte hlt.1;obtain⟨g2,o2,e2,hc2⟩:=(hq.go hB).byte hlt.2;subst e1;subst e2;have hst:=Um (p:=p) (q:=q) (j:=j) (by omega) (by omega);obtain⟨x,ex⟩:∃x,p.getD j 0=x:=⟨_,rfl⟩;obtain⟨y,ey⟩:∃y,q.getD j 0=y:=⟨_,rfl⟩;rw[ex,ey,hL]at hst;rw[ex]at hc1;rw[ey]at hc2;have hS:Cl2 v ⟨g1,o1+j*1,none⟩ ⟨g2,o2+j*1,none⟩ (.int .u8 x) (.int .u8 y):=⟨hc1,hc2⟩;refine Ht 6 ((j:Int)<(n:Int))<|Ht 4 ((j:Int)<(n':Int))<|GK 9 (λv=>Cl2 v ⟨g1,o1+j*1,none⟩ ⟨g2,o2+j*1,none⟩ (.int .u8 x) (.int .u8 y)) (hS.drew) ?_;replace hS:=hS.drew;refine Dx [0,1] 2 (og f53 4 2) (.pointer (some ⟨g1,o1+j*1,none⟩)) (λv hv _=>AV 27 _ _ g1 o1 j n c 1 5 rfl (by kernel_rfl) (by kernel_rfl) hlt.1 underlying27 (by kernel_rfl)) hS<|Dx [] 3 (og f53 4 3) (.int .u8 x) (λv hv _=>AF 5 _ _ _ _ rfl (by kernel_rfl) hv.cx underlying5 rfl) hS<|Dx [4,5] 6 (og f53 4 6) (.pointer (some ⟨g2,o2+j*1,none⟩)) (λv hv _=>AV 27 _ _ g2 o2 j n' c' 1 5 rfl (by kernel_rfl) (by kernel_rfl) hlt.2 underlying27 (by kernel_rfl)) hS<|Dx [] 7 (og f53 4 7) (.int .u8 y) (λv hv _=>AF 5 _ _ _ _ rfl (by kernel_rfl) hv.cy underlying5 rfl) hS<|Dx [] 8 (og f53 4 8) (.bool (!((x:Int)==(y:Int)))) (λv hv _=>by kernel_rfl) hS<|Do ?_;by_cases hxy:x=y
  ·skip
   rw[show(!((x:Int)==(y:Int)))=false from by simp[hxy]];refine Hi 7 ((j:Int)+1) ((j:Int)+1) ?_;replace hB:=hB.drew;exact hN1 2 (j+1) ⟨hB,by omega,by omega,by rw[hst,Af hxy]⟩ (by show n-(j+1)<n-j;omega) (λ_=>by kernel_rfl)
  ·skip
   rw[show(!((x:Int)==(y:Int)))=true from by simp[hxy]];refine GK 3 (λv=>Cl2 v ⟨g1,o1+j*1,none⟩ ⟨g2,o2+j*1,none⟩ (.int .u8 x) (.int .u8 y)) (hS.drew) ?_;replace hS:=hS.drew;refine Dx [0,1] 2 (og f53 5 2) (.pointer (some ⟨g1,o1+j*1,none⟩)) (λv hv _=>AV 27 _ _ g1 o1 j n c 1 5 rfl (by kernel_rfl) (by kernel_rfl) hlt.1 underlying27 (by kernel_rfl)) hS<|Dx [] 3 (og f53 5 3) (.int .u8 x) (λv hv _=>AF 5 _ _ _ _ rfl (by kernel_rfl) hv.cx underlying5 rfl) hS<|Dx [4,5] 6 (og f53 5 6) (.pointer (some ⟨g2,o2+j*1,none⟩)) (λv hv _=>AV 27 _ _ g2 o2 j n' c' 1 5 rfl (by kernel_rfl) (by kernel_rfl) hlt.2 underlying27 (by kernel_rfl)) hS<|Dx [] 7 (og f53 5 7) (.int .u8 y) (λv hv _=>AF 5 _ _ _ _ rfl (by kernel_rfl) hv.cy underlying5 rfl) hS<|Dx [] 8 (og f53 5 8) (.bool (decide ((x:Int)<(y:Int)))) (λv hv _=>by kernel_rfl) hS<|Dx [] 9 (og f53 5 9) (.bool (decide ((x:Int)<(y:Int)))) (λv hv _=>by kernel_rfl) hS<|Do ?_;replace hB:=hB.drew.drew;exact Hr 7 (.bool (decide ((x:Int)<(y:Int)))) ⟨_,rfl,by rw[hst,Ad hxy],hB⟩
 have hen:=W7 (p:=p) (q:=q) (j:=j) (by omega) (by omega) (by omega);rw[lp,lq]at hen;by_cases hl1:j<n
 ·skip
  refine Ht 6 ((j:Int)<(n:Int))<|Hf 4 ((j:Int)<(n':Int))<|Hp 15 (.bool (decide ((n:Int)<(n':Int))))<|Hp 0 (.bool (decide ((n:Int)<(n':Int)))) ?_;exact Hr 3 (.bool (decide ((n:Int)<(n':Int)))) ⟨_,rfl,by rw[<-hL,hen];congr 1;exact decide_eq_decide.2 (by omega),hB⟩
 ·skip
  refine Hf 6 ((j:Int)<(n:Int))<|Hp 20 (.bool (decide ((n:Int)<(n':Int))))<|Hp 0 (.bool (decide ((n:Int)<(n':Int)))) ?_;exact Hr 3 (.bool (decide ((n:Int)<(n':Int)))) ⟨_,rfl,by rw[<-hL,hen];congr 1;exact decide_eq_decide.2 (by omega),hB⟩
theorem JW{l:PList}(hl:PAt K w a n c vs l){nk ck:Nat}(hk:Sk K' w ak nk ck k)(hb:n<=2600000000000)(hlen:∀(j:Nat) k x,l[j]?=some (k,x)->k.length<=1000000):
 Calls prog 37 #[.slice a n c, .slice ak nk ck] w λe w'=>∃u,e= .returned u/\(λu w'=>u= .tuple #[.int .i64 ((atN k l:Nat):Int), .bool (isAt k l)]/\Bl w w') u w':=by
 have hB:=Bl.refl w;have ll:=hl.ll;refine Dp func37 39<|Ho (X:=Nat) 13 (λj=>[(6, .int .i64 (j:Int)),(0, .slice a n c),(1, .slice ak nk ck)]) (λj v=>Bl w v/\j<=n/\atN k (l.drop j)+j=atN k l) (λj=>n-j) 0 ⟨hB,Ay _,by simp⟩ ?_;clear hB;rintro j v⟨hB,hj1,hA⟩ I1 hN1;by_cases hlt:j<n
 ·skip
  obtain⟨g,off,a1,n1,c1,a2,n2,c2,k1,x1,ea,hej,hc1,hc2,hs1,hs2⟩:=(hl.go hB).at hlt;subst ea;have hst:=W8 (k:=k) (l:=l) (j:=j) (by omega) hej;have hS:Cl2 v ⟨g,off+j*2,none⟩ ⟨g,off+j*2+1,none⟩ (.slice a1 n1 c1) (.slice a2 n2 c2):=⟨hc1,hc2⟩;refine Ht 6 ((j:Int)<(n:Int))<|Hx 10 (og f37 3 2) (.pointer (some ⟨g,off+j*2,none⟩)) (λ_=>AV 26 _ _ g off j n c 2 45 rfl (by kernel_rfl) (by kernel_rfl) hlt underlying26 (by kernel_rfl))<|Hx 1 (og f37 3 4) (.slice a1 n1 c1) (λ_=>AF 27 _ _ _ _ rfl (by kernel_rfl) hS.cx underlying27 rfl)<|Hc 1 (R:=λu w'=>u= .bool (lessP k1 k)/\Bl (v) w') ((JV hs1 (hk.go hB) (by have:=hlen j k1 x1 hej;have:=hs1.len;omega))) ?_;rintro _ u1⟨rfl,hb2⟩;refine Hp 0 (.bool (lessP k1 k))<|Hp 5 (.bool (lessP k1 k))<|Hp 0 (.bool (!(lessP k1 k))) ?_;by_cases hah:lessP k1 k=true
  ·skip
   rw[hah];refine Hi 7 ((j:Int)+1) ((j:Int)+1) ?_;replace hB:=hB.go hb2;exact hN1 3 (j+1) ⟨hB,by omega,by rw[Af hah]at hst;omega⟩ (by show n-(j+1)<n-j;omega) (λ_=>by kernel_rfl)
  ·skip
   replace hah:lessP k1 k=false:=(by simpa using hah);have hjn:atN k l=j:=(by rw[hst,Ad (by rw[hah];exact Cw)]at hA;omega);rw[hah];replace hB:=hB.go hb2;replace hS:=hS.go hb2;replace hs1:=hs1.go hb2;have hZ:Cl2 u1 ⟨g,off+j*2,none⟩ ⟨g,off+j*2+1,none⟩ (.slice a1 n1 c1) (.slice a2 n2 c2)/\Sk K u1 a1 n1 c1 k1/\Sk K' u1 ak nk ck k:=⟨hS,hs1,hk.go hB⟩;refine GK 10 (λv=>Cl2 v ⟨g,off+j*2,none⟩ ⟨g,off+j*2+1,none⟩ (.slice a1 n1 c1) (.slice a2 n2 c2)/\Sk K v a1 n1 c1 k1/\Sk K' v ak nk ck k) (⟨hZ.1.drew,hZ.2.1.drew,hZ.2.2.drew⟩)<|Dx [0,1,2,3] 4 (og f37 6 4) (.bool true) (λv hv=>(λ_=>CP (v:= .bool (decide ((j:Int)<(n:Int)))) (by kernel_rfl) (Av Value.bool (AT (by omega))))) (show Cl2 u1.drew ⟨g,off+j*2,none⟩ ⟨g,off+j*2+1,none⟩ (.slice a1 n1 c1) (.slice a2 n2 c2)/\Sk K u1.drew a1 n1 c1 k1/\Sk K' u1.drew ak nk ck k from⟨hZ.1.drew,hZ.2.1.drew,hZ.2.2.drew⟩)<|Dx [5,6,7] 8 (og f37 6 8) (.pointer (some ⟨g,off+j*2,none⟩)) (λv hv _=>AV 26 _ _ g off j n c 2 45 rfl (by kernel_rfl) (by kernel_rfl) hlt underlying26 (by kernel_rfl)) (show Cl2 u1.drew ⟨g,off+j*2,none⟩ ⟨g,off+j*2+1,none⟩ (.slice a1 n1 c1) (.slice a2 n2 c2)/\Sk K u1.drew a1 n1 c1 k1/\Sk K' u1.drew ak nk ck k from⟨hZ.1.drew,hZ.2.1.drew,hZ.2.2.drew⟩)<|Dx [9] 10 (og f37 6 10) (.slice a1 n1 c1) (λv hv _=>AF 27 _ _ _ _ rfl (by kernel_rfl) hv.1.cx underlying27 rfl) (show Cl2 u1.drew ⟨g,off+j*2,none⟩ ⟨g,off+j*2+1,none⟩ (.slice a1 n1 c1) (.slice a2 n2 c2)/\Sk K u1.drew a1 n1 c1 k1/\Sk K' u1.drew ak nk ck k from⟨hZ.1.drew,hZ.2.1.drew,hZ.2.2.drew⟩)<|Dx [] 11 (og f37 6 11) (.string (strOfNums k1)) (λv hv _=>hv.2.1.run_str _ _ _ rfl (by kernel_rfl)) (show Cl2 u1.drew ⟨g,off+j*2,none⟩ ⟨g,off+j*2+1,none⟩ (.slice a1 n1 c1) (.slice a2 n2 c2)/\Sk K u1.drew a1 n1 c1 k1/\Sk K' u1.drew ak nk ck k from⟨hZ.1.drew,hZ.2.1.drew,hZ.2.2.drew⟩)<|Dx [12] 13 (og f37 6 13) (.string (strOfNums k)) (λv hv _=>hv.2.2.run_str _ _ _ rfl (by kernel_rfl)) (show Cl2 u1.drew ⟨g,off+j*2,none⟩ ⟨g,off+j*2+1,none⟩ (.slice a1 n1 c1) (.slice a2 n2 c2)/\Sk K u1.drew a1 n1 c1 k1/\Sk K' u1.drew ak nk ck k from⟨hZ.1.drew,hZ.2.1.drew,hZ.2.2.drew⟩)<|Dx [] 14 (og f37 6 14) (.bool (decide (k1=k))) (λv hv _=>Gf 9 _ _ _ _ _ rfl (by kernel_rfl) (by kernel_rfl) (IW hs1.ag.b hk.ag.b)) (show Cl2 u1.drew ⟨g,off+j*2,none⟩ ⟨g,off+j*2+1,none⟩ (.slice a1 n1 c1) (.slice a2 n2 c2)/\Sk K u1.drew a1 n1 c1 k1/\Sk K' u1.drew ak nk ck k from⟨hZ.1.drew,hZ.2.1.drew,hZ.2.2.drew⟩)<|Dx [] 15 (og f37 6 15) (.bool (decide (k1=k))) (λv hv _=>by kernel_rfl) (show Cl2 u1.drew ⟨g,off+j*2,none⟩ ⟨g,off+j*2+1,none⟩ (.slice a1 n1 c1) (.slice a2 n2 c2)/\Sk K u1.drew a1 n1 c1 k1/\Sk K' u1.drew ak nk ck k from⟨hZ.1.drew,hZ.2.1.drew,hZ.2.2.drew⟩)<|Dx [16] 17 (og f37 6 17) (.bool (decide (k1=k))) (λv hv _=>by kernel_rfl) (show Cl2 u1.drew ⟨g,off+j*2,none⟩ ⟨g,off+j*2+1,none⟩ (.slice a1 n1 c1) (.slice a2 n2 c2)/\Sk K u1.drew a1 n1 c1 k1/\Sk K' u1.drew ak nk ck k from⟨hZ.1.drew,hZ.2.1.drew,hZ.2.2.drew⟩)<|Do ?_;replace hB:=hB.drew;exact Hr 2 (.tuple #[.int .i64 (j:Int), .bool (decide (k1=k))]) ⟨_,rfl,by rw[hjn,SN hjn hej],hB⟩
 have hjn:atN k l=l.length:=by rw[B5 (by omega)]at hA;simp only[atN]at hA;omega
 have hS:True:=trivial;refine Hf 6 ((j:Int)<(n:Int))<|GK 9 (λ_=>True) (trivial)<|Dx [0,1,2,3] 4 (og f37 6 4) (.bool false) (λv hv=>(λ_=>CP (v:= .bool (decide ((j:Int)<(n:Int)))) (by kernel_rfl) (Av Value.bool (AU (by omega))))) trivial<|Dq [5,6,7,8,9,10,11,12,13,14,15,16,17] trivial ?_;replace hB:=hB.drew;exact Hr 2 (.tuple #[.int .i64 (j:Int), .bool false]) ⟨_,rfl,by rw[J5 hjn,hjn,show j=l.length from by omega],hB⟩
theorem W9{l:PList}(h:isAt k l=true)(hj:atN k l=j){k1 x1:List Int}(he:l[j]?=some (k1,x1)):k1=k:=by
 rw[SN hj he]at h;exact Dk h
theorem Un{l:PList}(hl:PAt K w a n c vs l){nk ck:Nat}(hk:Sk K' w ak nk ck k)(hb:n<=2600000000000)(hn:32<nk):
 Calls prog 17 #[.slice a n c, .slice ak nk ck] w λe w'=>∃u,e= .returned u/\(λu w'=>u= .tuple #[.slice none 0 0, .bool false, .int .i64 70]/\Bl w w') u w':=by
 have hB:=Bl.refl w;have lk:=hk.len;have ll:=hl.ll;refine Dp func17 25<|Ht 12 ((nk:Int)>(32:Int)) ?_;exact Hr 12 (.tuple #[.slice none 0 0, .bool false, .int .i64 70]) ⟨_,rfl,rfl,hB⟩
theorem Y7{l:PList}(hl:PAt K w a n c vs l){nk ck:Nat}(hk:Sk K' w ak nk ck k)(hb:n<=2600000000000)(hlen:∀(j:Nat) k x,l[j]?=some (k,x)->k.length<=1000000)(hn:nk<=32)(hat:isAt k l=true):
 Calls prog 17 #[.slice a n c, .slice ak nk ck] w λe w'=>∃u,e= .returned u/\(λu w'=>(∃a2 n2 c2,u= .tuple #[.slice a2 n2 c2, .bool true, .int .i64 0]/\∃x,l[atN k l]?=some (k,x)/\Sk K w' a2 n2 c2 x)/\Bl w w') u w':=by
 have hB:=Bl.refl w;have lk:=hk.len;have ll:=hl.ll;refine Dp func17 25<|Hf 12 ((nk:Int)>(32:Int))<|Hc 9 (R:=λu w'=>u= .tuple #[.int .i64 ((atN k l:Nat):Int), .bool (isAt k l)]/\Bl (w) w') ((JW (hl.go hB) (hk.go hB) hb hlen)) ?_;rintro _ u1⟨rfl,hb2⟩;rw[hat];have hlt:atN k l<n:=by by_cases h:atN k l<n;exact h;have:=LV k l;rw[J5 (by omega)]at hat;cases hat
 obtain⟨j,ej⟩:∃j,atN k l=j:=⟨_,rfl⟩;rw[ej]at hlt⊢;replace hB:=hB.go hb2;obtain⟨g,off,a1,n1,c1,a2,n2,c2,k1,x1,ea,hej,hc1,hc2,hs1,hs2⟩:=(hl.go hB).at hlt;subst ea;refine Hx 21 (og f17 6 2) (.pointer (some ⟨g,off+j*2,none⟩)) (λ_=>AV 26 _ _ g off j n c 2 45 rfl (by kernel_rfl) (by kernel_rfl) hlt underlying26 (by kernel_rfl))<|Hx 1 (og f17 6 4) (.slice a2 n2 c2) (λ_=>AF 27 _ _ _ _ rfl (by kernel_rfl) hc2 underlying27 rfl) ?_;exact Hr 6 (.tuple #[.slice a2 n2 c2, .bool true, .int .i64 0]) ⟨_,rfl,⟨a2,n2,c2,rfl,x1,by rw[<-W9 hat ej hej];exact hej,hs2⟩,hB⟩
theorem WA{l:PList}(hl:PAt K w a n c vs l){nk ck:Nat}(hk:Sk K' w ak nk ck k)(hb:n<=2600000000000)(hlen:∀(j:Nat) k x,l[j]?=some (k,x)->k.length<=1000000)(hn:nk<=32)(hat:isAt k l=false):
 Calls prog 17 #[.slice a n c, .slice ak nk ck] w λe w'=>∃u,e= .returned u/\(λu w'=>u= .tuple #[.slice none 0 0, .bool false, .int .i64 0]/\Bl w w') u w':=by
 have hB:=Bl.refl w;have lk:=hk.len;have ll:=hl.ll;refine Dp func17 25<|Hf 12 ((nk:Int)>(32:Int))<|Hc 9 (R:=λu w'=>u= .tuple #[.int .i64 ((atN k l:Nat):Int), .bool (isAt k l)]/\Bl (w) w') ((JW (hl.go hB) (hk.go hB) hb hlen)) ?_;rintro _ u1⟨rfl,hb2⟩;rw[hat];replace hB:=hB.go hb2;exact Hr 24 (.tuple #[.slice none 0 0, .bool false, .int .i64 0]) ⟨_,rfl,rfl,hB⟩
end Go.Proofs.YtalhnnjpjaeakaaGreat
namespace Go.Proofs.YtalhnnjpjaeakaaGreat
variable {K : Nat → Prop} {w w' u : World} {ys post C : List RV} {rs : List PR} {y : RV} {gk gn : Nat}
theorem GY{P:Program}(w:World)(base:Nat)(t ty e:TypeId)(i:TypeInfo)(z:Value)(size bytes:Nat)(ht:P.underlying t=some (.slice e))(hi:P.info? e=some i)(hz:i.zero=some z)
 (hsize:i.size=size) (hby:i.bytes=bytes) (hzs:z.cells.size=size) (hsz:0<size)
 (v:Value) (n:Nat) (xs:List Value) (hown:w.ownsRow base e size v n xs)
 (a:Addr) (m c:Nat) (news:List Value) (hl:news.length=m*size) (hnews:∀j u,news[j]?=some u->w.cell? (a.add j)=some u) (h1:∀u∈news,u.oneCell'=true) (hm0:0<m)
 (h63:n+m<=maxLen) (hbytes:((n+m)+(n+m)/4+192)*bytes<=281474976710656) (hbase:base<=w.heap.size):
 ∃v' w',(Builtin.append_ #[t,t] ty #[v, .slice (some a) m c]).run P w= .ok v' w'/\w'.ownsRow base e size v' (n+m) (xs++news)/\w.grownBy w' v.ownBlock/\
  (v'= .slice none 0 0↔v= .slice none 0 0/\m=0)/\(v'.ownBlock=v.ownBlock∨v'.ownBlock=some w.heap.size):=by
 obtain⟨v',w',r1,r2,r3,r4⟩:=run_append_own_wide w base t ty e i z size bytes ht hi hz hsize hby hzs hsz v n xs hown a m c news hl hnews h1 h63 hbytes hbase;refine⟨v',w',r1,r2,r3,r4,?_⟩;subst hsize;subst hby
 have hsmall:n+m<=9223372036854775807:=by simp only[maxLen]at h63;omega
 rcases hown.2 with⟨rfl,rfl⟩|⟨g,cap,cur,rfl,hbg,hg,hnc,hcm,hcs,htake⟩
 ·have hr:=run_append_nil (P:=P) w t ty e i z ht hi hz a m c news hl hnews hm0 (by omega) (by
   have h2:m*i.bytes<=(0+m+(0+m)/4+192)*i.bytes:=Nat.mul_le_mul_right _ (by omega);omega)
  rw[hr]at r1;cases r1;exact .inr rfl
 ·by_cases hroom:n+m<=cap
  ·have hfit:n*i.size+news.length<=cur.size:=(by rw[hl,hcs,<-Nat.add_mul];exact Nat.mul_le_mul_right _ hroom);have hr:=run_append_room (P:=P) w t ty e i ht hi g n cap cur hg a m c news hl hnews h1 hroom hfit;rw[hr]at r1;cases r1;exact .inl rfl
  ·have holds:∀j u,xs[j]?=some u->w.cell? ((⟨g,0,none⟩:Addr).add j)=some u:=hown.cells (g:=g) rfl;have hr:=run_append_grow (P:=P) w t ty e i z ht hi hz ⟨g,0,none⟩ n cap xs hown.1 holds a m c news hl hnews (by omega) (by omega) (growslice_fits_wide (by omega) hbytes);rw[hr]at r1;cases r1;exact .inr rfl
def flatR(ys:List RV):List Value:=ys.flatMap RV.cells
theorem FD:∀{ys:List RV},(∀y∈ys,y.d.length=32)->(flatR ys).length=ys.length*34
 |[],_=>rfl
 |y::r,h=>by
  have ih:=FD λz hz=>h z (A9 _ hz);unfold flatR at ih⊢;rw[Cn,Ab,ih,RV.len (h y (by simp)),AS];omega
theorem Gy(a b:List RV):flatR (a++b)=flatR a++flatR b:=by unfold flatR;rw[BX]
theorem JX(y:RV):flatR [y]=y.cells:=by unfold flatR;rw[Cn,List.flatMap_nil,A3]
theorem QM:∃i,prog.info? 62=some i/\i.zero=some (.agg rz.cells.toArray)/\i.size=34/\i.bytes=64:=by
 have h:(prog.info? 62).map (λi=>(i.zero,i.size,i.bytes))=some (some (.agg rz.cells.toArray),34,64):=by kernel_rfl
 cases hq:prog.info? 62 with
 |none=>rw[hq]at h;simp at h
 |some i=>rw[hq]at h;simp at h;exact⟨i,rfl,h.1,h.2.1,h.2.2⟩
theorem ZZ:madeCells (Value.agg rz.cells.toArray).cells ((16:Int).toNat*34)=(flatR (List.replicate 16 rz)).toArray:=by kernel_rfl
section
variable {a : Act} {w : World}
theorem Nv{o:Oper}(ho:o.op= .makeSlice 90 (.const (.int .i64 16)) (.const (.int .i64 16))):(execOp a.eval o).run prog w= .ok (.value (.slice (some ⟨w.heap.size,0,none⟩) 16 16)) (w.alloc (.cells (flatR (List.replicate 16 rz)).toArray 62)):=by
 obtain⟨i,hi,hz,hsz,hby⟩:=QM;have hr:(Instr.makeSlice 90 (.int .i64 16) (.int .i64 16)).run prog w= .ok (.slice (some ⟨w.heap.size,0,none⟩) 16 16) (w.alloc (.cells (flatR (List.replicate 16 rz)).toArray 62)):=by
  have h:=run_make (P:=prog) w 90 62 i _ underlying90 hi hz .i64 .i64 16 16 (by omega) (by omega) (by rw[hby];omega) (by omega);rw[hsz,show madeCells (Value.agg rz.cells.toArray).cells ((16:Int).toNat*34)=(flatR (List.replicate 16 rz)).toArray from ZZ]at h;exact h
 unfold execOp;rw[ho];simp only[Act.eval,Bm,hr,AH,Bp]
theorem Ir{o:Oper}(ho:o.op= .alloc 92):(execOp a.eval o).run prog w= .ok (.value (.pointer (some ⟨w.heap.size,0,none⟩))) (w.alloc (.cells nz.cells.toArray 92)):=by
 unfold execOp;rw[ho];go_simp;rfl
theorem QN{x y:Operand}{o:Oper}(ho:o.op= .store 62 x y)(g off:Nat)(r:RV)(hl:r.d.length=32)(hx:a.eval x= .pointer (some ⟨g,off,none⟩))(hy:a.eval y= .agg r.cells.toArray)(t:TypeId)(cur:Array Value)
 (hg:w.heap[g]?=some (.cells cur t (0,0))) (hfit:off+34<=cur.size):
 (execOp a.eval o).run prog w= .ok .skip (w.setRow g (cur.toList.take off++r.cells++cur.toList.drop (off+34)).toArray):=by
 have hst:=run_storeCells_at prog g off t r.cells 0 cur w hg (by rw[RV.len hl];omega) r.one;have hi:=FP;cases hq:prog.info? 62 with
 |none=>rw[hq]at hi;simp at hi
 |some i=>
  have hs:i.size=34:=by rw[hq]at hi;simpa using hi
  have hsv:(storeVar 62 ⟨g,off,none⟩ (.agg r.cells.toArray)).run prog w= .ok () (w.setRow g (cur.toList.take off++r.cells++cur.toList.drop (off+34)).toArray):=by
   rw[RV.len hl]at hst;simp[storeVar,sizeOf,typeInfo,hq,Value.cells,hs,RV.len hl];simpa using hst
  unfold execOp;rw[ho];simp only[hx,hy,Instr.storeAt,Instr.sureAddr,Bm,Bp,AH,hsv]
end
theorem Nx:∀{ts:List T}{t:T},t∈ts->refOfP t=none->kidsP ts=none
 |x::l,t,ht,h=>by
  rw[kidsP];rcases Az.1 ht with rfl|ht
  ·rw[h]
  ·rw[Nx ht h];cases refOfP x<;>rfl
theorem Ny:∀{ts:List T}{rs:List PR}{t:T}{r:PR},kidsP ts=some rs->refOfP t=some r->kidsP (ts++[t])=some (rs++[r])
 |[],rs,t,r,h,hr=>by
  cases h;rw[A6,kidsP,hr,kidsP];rfl
 |x::l,rs,t,r,h,hr=>by
  rw[kidsP]at h;rw[Cb,kidsP];cases hx:refOfP x with
  |none=>rw[hx]at h;cases h
  |some a=>
   rw[hx]at h;dsimp only at h⊢;cases hk:kidsP l with
   |none=>rw[hk]at h;cases h
   |some l'=>
    rw[hk]at h;cases h;rw[Ny hk hr];rfl
def RefsAt(K:Nat->Prop)(w:World)(ys:List RV)(rs:List PR):Prop:=rs.length=ys.length/\(∀y∈ys,y.d.length=32)/\∀(i:Nat)(y:RV)(r:PR),ys[i]?=some y->rs[i]?=some r->RefAt K w y r
theorem RefsAt.go{L:Nat->Prop}(hk:Keep K L w w')(h:RefsAt K w ys rs):RefsAt L w' ys rs:=⟨h.1,h.2.1,λi y r h1 h2=>(h.2.2 i y r h1 h2).go hk⟩
theorem RefsAt.snoc{r:PR}(h:RefsAt K w ys rs)(hy:RefAt K w y r):RefsAt K w (ys++[y]) (rs++[r]):=by
 refine⟨by simp[h.1],λz hz=>?_,λi z s h1 h2=>?_⟩
 ·rcases AM.1 hz with hz|hz
  ·exact h.2.1 z hz
  ·simp only[Az,Cc,Ec]at hz;rw[hz];exact hy.len
 ·by_cases hi:i<ys.length
  ·rw[AW hi]at h1;rw[AW (by rw[h.1];exact hi)]at h2;exact h.2.2 i z s h1 h2
  ·have hi2:i=ys.length:=by
    have:=(Aw.1 h1).1;simp at this;omega
   subst hi2;simp at h1;rw[<-h.1]at h2;simp at h2;rw[<-h1,<-h2];exact hy
theorem SO{pre:List RV}(hp:∀z∈pre,z.d.length=32){j:Nat}{u:Value}(h:y.cells[j]?=some u):(flatR (pre++y::post))[pre.length*34+j]?=some u:=by
 have e:flatR (pre++y::post)=flatR pre++(y.cells++flatR post):=by
  rw[Gy,show y::post=[y]++post from rfl,Gy,JX]
 rw[e,AZ (by rw[FD hp];omega),FD hp,show pre.length*34+j-pre.length*34=j from by omega,AW (Aw.1 h).1];exact h
theorem QO{g:Nat}(hr:w.heap[g]?=some (.cells (flatR ys).toArray 62))(hK:K g)(h:RefsAt K w ys rs):KidsAt K w (some ⟨g,0,none⟩) rs:=λj r hj=>by
 have hjl:j<ys.length:=by rw[<-h.1];exact(Aw.1 hj).1
 refine⟨g,0,ys[j],rfl,hK,λk u hu=>?_,h.2.2 j _ r (Ac hjl) hj⟩;rw[Ae _ _ _ _ _ _ hr,List.getElem?_toArray];have e:ys=ys.take j++ys[j]::ys.drop (j+1):=by rw[<-Bq hjl,Bf]
 have hl:(ys.take j).length=j:=by rw[Ao];omega
 have hf:=SO (pre:=ys.take j) (post:=ys.drop (j+1)) (λz hz=>h.2.1 z (Bi hz)) hu;rw[hl,<-e]at hf;rw[show 0+j*34+k=j*34+k from by omega];exact hf
theorem WB{pre:List RV}{z:RV}(hp:∀x∈pre,x.d.length=32)(hz:z.d.length=32):
 (flatR (pre++z::post)).take (pre.length*34)++y.cells++(flatR (pre++z::post)).drop (pre.length*34+34)=flatR (pre++y::post):=by
 have e:∀x:RV,flatR (pre++x::post)=flatR pre++(x.cells++flatR post):=λx=>by
  rw[Gy,show x::post=[x]++post from rfl,Gy,JX]
 rw[e z,e y];have l1:=FD hp;rw[Cs (by omega),A5 (by omega),List.drop_append,Br (by omega),A6,l1,show pre.length*34+34-pre.length*34=34 from by omega,List.drop_append,Br (by rw[RV.len hz];omega),A6,RV.len hz,Cx,Cy,AE]
section
variable {w : World} {ops : Array Oper} {rest : List Oper} {o : Oper} {a : Act} {Q : Exit → Act → World → Prop}
theorem PB(hw:Region.wanted o (yielded ops a.tmps)=true)(x y:Operand)(ho:o.op= .store 62 x y)(g off:Nat)(r:RV)(hl:r.d.length=32)(hx:a.eval x= .pointer (some ⟨g,off,none⟩))(hy:a.eval y= .agg r.cells.toArray)(t:TypeId)(cur:Array Value)
 (hg:w.heap[g]?=some (.cells cur t (0,0))) (hfit:off+34<=cur.size) (h:wpList prog ops Q rest (a.put o.dst undef) (w.setRow g (cur.toList.take off++r.cells++cur.toList.drop (off+34)).toArray)):wpList prog ops Q (o::rest) a w:=
 LN hw λK hK=>by
  unfold Oper.wp;rw[QN ho g off r hl hx hy t cur hg hfit,Oper.upon_skip];exact hK _ _ h
end
structure Pb(w v:World)(y:V):Prop where
 row:v.heap[w.heap.size+1]?=some (.cells nz.cells.toArray 92)
 bx:B1 w.heap.size v y
 bel:Below w.heap.size w v
 sz:v.heap.size=w.heap.size+2
theorem WC(w:World)(y:V):Pb w ((w.alloc (.cells #[.bool y.l, .slice y.ba y.bn y.bc, .slice y.ia y.m y.ic] 110)).alloc (.cells nz.cells.toArray 92)) y:=by
 have s1:(w.alloc (.cells #[.bool y.l, .slice y.ba y.bn y.bc, .slice y.ia y.m y.ic] 110)).heap.size=w.heap.size+1:=by simp
 refine⟨?_,(E5 w y).alloc _,below_go (below_new w _) (below_new _ _),by simp⟩;have:=Ai (w.alloc (.cells #[.bool y.l, .slice y.ba y.bn y.bc, .slice y.ia y.m y.ic] 110)) (.cells nz.cells.toArray 92);rwa [s1]at this
def nvB(y:V)(gk:Nat):NV:=⟨3,none,0,0,y.ba,y.bn,y.bc,rz,some ⟨gk,0,none⟩,16,16⟩
structure Bk(w u:World)(y:V)(gk gn:Nat)(C:List RV):Prop where
 row:u.heap[w.heap.size+1]?=some (.cells nz.cells.toArray 92)
 bx:B1 w.heap.size u y
 nb:NBx gn u (nvB y gk)
 kr:u.heap[gk]?=some (.cells (flatR C).toArray 62)
 bel:Below w.heap.size w u
 gk2:w.heap.size+2<=gk/\gk<w.heap.size+4
 gn2:w.heap.size+2<=gn/\gn<w.heap.size+4
 ne:gk≠gn
 sz:w.heap.size+4<=u.heap.size
theorem Bk.go{u':World}{y:V}(h:Bk w u y gk gn C)(hb:Below u.heap.size u u'):Bk w u' y gk gn C:=
 ⟨Below.row hb h.row,h.bx.go hb,h.nb.go hb,Below.row hb h.kr,below_go h.bel hb,h.gk2,h.gn2,h.ne,Al h.sz hb.size⟩
theorem Bk.put{y:V}{D:List RV}(h:Bk w u y gk gn C):Bk w (u.setRow gk (flatR D).toArray) y gk gn D:=
 ⟨(AX _ _ _ _ (by have:=h.gk2;omega)).trans h.row,DO h.bx (by have:=h.gk2;omega),⟨(AX _ _ _ _ (Ne.symm h.ne)).trans h.nb.row,h.nb.l⟩,AA _ _ _ _ _ _ h.kr,Below.setRow h.bel (by have:=h.gk2;omega) _,h.gk2,h.gn2,h.ne,by simpa using h.sz⟩
theorem QP{base:Nat}(h:RefsAt (Own base w) w ys rs)(hb:Below w.heap.size w w'):RefsAt (Own base w') w' ys rs:=h.go (Keep.own hb (Aa _))
theorem Md(P:Nat->Prop)(ts:List T)(a:Option Addr)(c:Nat)(u:T)(y:V)(w:World)(h16:ts.length=16)(hall:LiesAll w ts a 0)(hc:16<=c/\c<=maxLen)(hy:LiesP P w u y)(hb:∀g,w.heap.size<=g->P g):
 Calls prog 99 #[.slice a 16 c, .agg #[.bool y.l, .slice y.ba y.bn y.bc, .slice y.ia y.m y.ic]] w (NPost P w (branchP ts u)):=by
 obtain⟨l2,bs2,its2⟩:=u;obtain⟨⟨hl2,-⟩,-⟩:=liesP_eq.1 hy;subst hl2;obtain⟨hc1,hc2⟩:=hc;unfold maxLen at hc2;have HY:=Xba hy;have HBASE:=Xba hb;have H16:=Xba h16;have HALL:=Xba hall;obtain⟨res,hres⟩:∃res,branchP ts (.mk y.l bs2 its2)=res:=⟨_,rfl⟩;rw[hres]
 have hres:(match kidsP ts with
  |none=>none
  |some ks=>if y.l=true then none else some (⟨3,[],bs2,r0,ks⟩:PN))=res:=hres
 have HRES:=Xba hres;have HPB0:=Xba (WC w y);clear hres hy hb h16 hall;go_enter func99,ntmps99;go_upto_region 1 with fail;refine gen_w (p:=λv=>Code.wp _ _ _ _ v) (q:=λv=>Pb w v y) HPB0.out ?_;clear HPB0;intro v P0;have HPB:=Xba P0;clear P0;have HSZ:=Xba HPB.out.sz
 go_cut [6]from 6 to 14 (λs6 u=>∃gk gn,s6= .pointer (some ⟨gn,0,none⟩)/\Bk w u y gk gn (List.replicate 16 rz))
 case first=>
  have HS1:=Xba (show(v.drew.alloc (.cells (flatR (List.replicate 16 rz)).toArray 62)).heap.size=v.heap.size+1 from by simp);have HS2:=Xba (show(v.drew.alloc (.cells nz.cells.toArray 92)).heap.size=v.heap.size+1 from by simp);have HROWA:=Xba (show((v.drew.alloc (.cells (flatR (List.replicate 16 rz)).toArray 62)).alloc (.cells nz.cells.toArray 92)).heap[v.heap.size+1]?=some (.cells nz.cells.toArray 92)from by rw[<-HS1.out];exact heap_alloc_new _ _);have HROWB:=Xba (show((v.drew.alloc (.cells nz.cells.toArray 92)).alloc (.cells (flatR (List.replicate 16 rz)).toArray 62)).heap[v.heap.size]?=some (.cells nz.cells.toArray 92)from(heap_alloc_old _ _ (by rw[HS2.out];omega)).trans (heap_alloc_new v.drew _))
  have HBKA:=Xba (show Bk w (((v.drew.alloc (.cells (flatR (List.replicate 16 rz)).toArray 62)).alloc (.cells nz.cells.toArray 92)).setRow (v.heap.size+1) (nvB y v.heap.size).cells.toArray) y v.heap.size (v.heap.size+1) (List.replicate 16 rz)from by
   have hs:=HPB.out.sz;have hbl:Below v.heap.size v ((v.drew.alloc (.cells (flatR (List.replicate 16 rz)).toArray 62)).alloc (.cells nz.cells.toArray 92)):=below_go (below_go (Below.refl _ _).drew (below_new _ _)) (below_new _ _);refine⟨(setRow_other _ _ _ _ (by omega)).trans (Below.row hbl HPB.out.row),DO (HPB.out.bx.go hbl) (by omega),⟨setRow_heap _ _ _ _ _ _ HROWA.out,rfl⟩,(setRow_other _ _ _ _ (by omega)).trans ((heap_alloc_old _ _ (by rw[HS1.out];omega)).trans (heap_alloc_new v.drew _)),Below.setRow (below_go HPB.out.bel hbl) (by omega) _,⟨by omega,by omega⟩,⟨by omega,by omega⟩,by omega,by simp[hs]⟩)
  have HBKB:=Xba (show Bk w (((v.drew.alloc (.cells nz.cells.toArray 92)).alloc (.cells (flatR (List.replicate 16 rz)).toArray 62)).setRow v.heap.size (nvB y (v.heap.size+1)).cells.toArray) y (v.heap.size+1) v.heap.size (List.replicate 16 rz)from by
   have hs:=HPB.out.sz;have hbl:Below v.heap.size v ((v.drew.alloc (.cells nz.cells.toArray 92)).alloc (.cells (flatR (List.replicate 16 rz)).toArray 62)):=below_go (below_go (Below.refl _ _).drew (below_new _ _)) (below_new _ _);refine⟨(setRow_other _ _ _ _ (by omega)).trans (Below.row hbl HPB.out.row),DO (HPB.out.bx.go hbl) (by omega),⟨setRow_heap _ _ _ _ _ _ HROWB.out,rfl⟩,(setRow_other _ _ _ _ (by omega)).trans (by rw[<-HS2.out];exact heap_alloc_new _ _),Below.setRow (below_go HPB.out.bel hbl) (by omega) _,⟨by omega,by omega⟩,⟨by omega,by omega⟩,by omega,by simp[hs]⟩)
  refine wp_region_held_drew (S:=λv=>B1 w.heap.size v y) (by kernel_rfl) ⟨HPB.out.bx.c0,HPB.out.bx.c1,HPB.out.bx.c2⟩ (λhS=>?_);refine Bh 0 11 (.pointer (some ⟨w.heap.size,1,none⟩)) rfl rfl (by kernel_rfl) (by kernel_rfl) (by kernel_rfl) (λ_ _ _ h=>h) (by kernel_rfl) (λv _=>by kernel_rfl) hS ?_;refine Bh 1 12 (.slice y.ba y.bn y.bc) rfl rfl (by kernel_rfl) (by kernel_rfl) (by kernel_rfl) (λ_ _ _ h=>h) (by kernel_rfl) (λv hv=>FO rfl (by kernel_rfl) hv.c1) hS ?_;refine wpAnyH_ready (rs:=[2,4]) (by kernel_rfl) (by simp) ?_;refine CK 2 13 (.slice (some ⟨v.heap.size,0,none⟩) 16 16) rfl rfl (by kernel_rfl) (Nv rfl) (hS.alloc _) ?_ ?_
  ·refine Bh 3 14 (.agg (nvB y v.heap.size).cells.toArray) rfl rfl (by kernel_rfl) (by kernel_rfl) (by kernel_rfl) (λ_ _ _ h=>h) (by kernel_rfl) (λv' _=>Ea 92 _ rfl [(0, .int .i64 3),(2, .slice y.ba y.bn y.bc),(4, .slice (some ⟨v.heap.size,0,none⟩) 16 16)] (by kernel_rfl) _ (Pw _ _ _ _ _ _)) (hS.alloc _) ?_;refine wpAnyH_ready (rs:=[4]) (by kernel_rfl) (by simp) ?_;refine CK 4 6 (.pointer (some ⟨v.heap.size+1,0,none⟩)) rfl rfl (by kernel_rfl) ((Ir rfl).trans (by rw[HS1.out])) ((hS.alloc _).alloc _) ?_ AllReadyH.nil;refine wpAnyH_ready (rs:=[5]) (by kernel_rfl) (by simp) ?_;refine DG 5 rfl rfl (by kernel_rfl) (D3 92 _ _ rfl (v.heap.size+1) (nvB y (v.heap.size)).cells.toArray (by kernel_rfl) (by kernel_rfl) 92 nz.cells.toArray HROWA.out (CL rfl) (Cv rfl) (all_oneCell_toArray (NV.one _))) ?_ ?_ AllReadyH.nil
   ·exact DO ((hS.alloc _).alloc _) (by have:=HPB.out.sz;omega)
   refine wpAnyH_done (by kernel_rfl) ?_ _
   go_frame
   go_wp2_with fail
   go_meet
   refine⟨v.heap.size,v.heap.size+1,rfl,?_⟩;exact HBKA.out
  refine CK 4 6 (.pointer (some ⟨v.heap.size,0,none⟩)) rfl rfl (by kernel_rfl) (Ir rfl) (hS.alloc _) ?_ AllReadyH.nil;refine wpAnyH_ready (rs:=[2]) (by kernel_rfl) (by simp) ?_;refine CK 2 13 (.slice (some ⟨v.heap.size+1,0,none⟩) 16 16) rfl rfl (by kernel_rfl) ((Nv rfl).trans (by rw[HS2.out])) ((hS.alloc _).alloc _) ?_ AllReadyH.nil;refine Bh 3 14 (.agg (nvB y (v.heap.size+1)).cells.toArray) rfl rfl (by kernel_rfl) (by kernel_rfl) (by kernel_rfl) (λ_ _ _ h=>h) (by kernel_rfl) (λv' _=>Ea 92 _ rfl [(0, .int .i64 3),(2, .slice y.ba y.bn y.bc),(4, .slice (some ⟨v.heap.size+1,0,none⟩) 16 16)] (by kernel_rfl) _ (Pw _ _ _ _ _ _)) ((hS.alloc _).alloc _) ?_;refine wpAnyH_ready (rs:=[5]) (by kernel_rfl) (by simp) ?_;refine DG 5 rfl rfl (by kernel_rfl) (D3 92 _ _ rfl (v.heap.size) (nvB y (v.heap.size+1)).cells.toArray (by kernel_rfl) (by kernel_rfl) 92 nz.cells.toArray HROWB.out (CL rfl) (Cv rfl) (all_oneCell_toArray (NV.one _))) ?_ ?_ AllReadyH.nil
  ·exact DO ((hS.alloc _).alloc _) (by have:=HPB.out.sz;omega)
  refine wpAnyH_done (by kernel_rfl) ?_ _
  go_frame
  go_wp2_with fail
  go_meet
  refine⟨v.heap.size+1,v.heap.size,rfl,?_⟩;exact HBKB.out
 case rest=>
  obtain⟨gk,gn,rfl,BK⟩:=hcut;have HBK:=Xba BK;clear BK HPB HSZ;go_wp2_with fail
  go_loopw [17] (λs17 u=>∃j:Nat,j<=16/\s17= .int .i64 j/\∃(ys:List RV)(rs:List PR),kidsP (ts.take j)=some rs/\ys.length=j/\Bk w u y gk gn (ys++List.replicate (16-j) rz)/\RefsAt (Own (w.heap.size+4) u) u ys rs) (λs17 _=>16-(intOf s17).toNat)
  case atStart=>exact⟨0,by omega,rfl,[],[],rfl,rfl,HBK.out,rfl,(λy hy=>by cases hy),λi y r h=>by simp at h⟩
  case round=>
   obtain⟨j,hj,rfl,ys,rs,hkp,hyl,BK,hra⟩:=hrel;have HKP:=Xba hkp;have HYL:=Xba hyl;have HB:=Xba BK;have HRA:=Xba hra;clear hkp hyl BK hra HBK;by_cases hlt:j<16
   ·have hji:(j:Int)<16:=(by omega);obtain⟨t,ht⟩:∃t,ts[j]?=some t:=⟨_,List.getElem?_eq_getElem (by rw[H16.out];exact hlt)⟩;obtain⟨g,off,x,A⟩:=DX HALL.out j t ht;rw[Nat.zero_add]at A;have ha:=A.ha;subst ha;have y0:=AN HB.out.bel A.c0;have y1:=AN HB.out.bel A.c1;have y2:=AN HB.out.bel A.c2;have HA:=Xba A;have HT:=Xba ht;clear A ht;go_upto_region 5 with fail;refine gen_w (p:=λv=>Code.wp _ _ _ _ v) (q:=λv=>B1 wr.heap.size v x/\Below wr.heap.size wr v) ⟨E5 wr x,below_new wr _⟩ ?_;rintro v1⟨B,hb⟩;have c0:=B.c0;have c1:=B.c1;have c2:=B.c2;have HB1:=Xba (HB.out.go hb);have HRA1:=Xba (QP HRA.out hb);have HRO:=Xba (Nr t x v1 (Ci (below_go HB.out.bel hb) t x HA.out.li));clear B hb y0 y1 y2 HB HRA;go_wp2_with fail;refine HRO.out.mono ?_;intro e w2 hp;obtain⟨hb2,hp⟩:=hp;have HB2:=Xba (HB1.out.go hb2);have HRA2:=Xba (QP HRA1.out hb2);have HV1:=Xba HB1.out.sz;cases hq:refOfP t with
    |none=>
     rw[hq]at hp;obtain⟨r',hl',rfl⟩:=hp;have HL:=Xba hl';have hr:=HRES.out;rw[Nx (List.mem_of_getElem? HT.out) hq]at hr;subst hr;clear hb2 hq hl' c0 c1 c2 HRO;go_upto_region 6 with(first|refine wpList_store_row rfl 62 _ _ rfl _ r'.cells.toArray rfl rfl 62 _ (heap_alloc_new _ _) (Da HL.out) (Dv HL.out) (all_oneCell_toArray (RV.one _)) ?_);refine gen_w (p:=λv=>Code.wp _ _ _ _ v) (q:=λv=>Bk w v y gk gn (ys++List.replicate (16-j) rz)) (HB2.out.go (Below.setRow (below_new w2 _) (Nat.le_refl _) _)) ?_;intro v3 B3;have HB3:=Xba B3;clear B3;go_wp2_with (first|refine wpList_store_row rfl 92 _ _ rfl _ nz.cells.toArray rfl rfl 92 _ HB3.out.row (CL rfl) (Cv rfl) (all_oneCell_toArray (NV.one _)) ?_);refine bodyPost_ret (BP results99 _ _ (w.heap.size+1) nz rfl rfl (setRow_heap _ _ _ _ _ _ HB3.out.row)) rfl ?_;exact⟨Below.setRow HB3.out.bel (by omega) _,nz,rfl,rfl⟩
    |some r=>
     rw[hq]at hp;obtain⟨r',rfl,hy'⟩:=hp;have HL:=Xba hy'.len;have HYR:=Xba hy';have HKS:=Xba (show kidsP (ts.take (j+1))=some (rs++[r])from by rw[List.take_add_one,HT.out];exact Ny HKP.out hq);clear hb2 hq hy' c0 c1 c2 HRO;go_upto_region 6 with(first|refine wpList_store_row rfl 62 _ _ rfl _ r'.cells.toArray rfl rfl 62 _ (heap_alloc_new _ _) (Da HL.out) (Dv HL.out) (all_oneCell_toArray (RV.one _)) ?_);refine gen_w (p:=λv=>Code.wp _ _ _ _ v) (q:=λv=>RBx w2.heap.size v r'/\Bk w v y gk gn (ys++List.replicate (16-j) rz)/\RefsAt (Own (w.heap.size+4) v) v (ys++[r']) (rs++[r])) ⟨⟨setRow_heap _ _ _ _ _ _ (heap_alloc_new _ _),HL.out⟩,HB2.out.go (Below.setRow (below_new w2 _) (Nat.le_refl _) _),?_⟩ ?_
     ·have hbz:=Below.setRow (below_new w2 (.cells rz.cells.toArray 62)) (Nat.le_refl _) r'.cells.toArray;exact(QP HRA2.out hbz).snoc (HYR.out.go (Keep.own hbz HV1.out))
     rintro v3⟨BR,B3,R3⟩;have c37:=B3.nb.c37;have HBR:=Xba BR;have HB3:=Xba B3;have HR3:=Xba R3;have HZR:=Xba (show List.replicate (16-j) rz=rz::List.replicate (16-(j+1)) rz from by rw[show 16-j=(16-(j+1))+1 from by omega,List.replicate_succ]);have hkr:=B3.kr;rw[HZR.out]at hkr;have HKR:=Xba hkr;have HPRE:=Xba (show∀x∈ys,x.d.length=32 from λx hx=>R3.2.1 x (List.mem_append_left _ hx))
     have HFIT:=Xba (show j*34+34<=(flatR (ys++rz::List.replicate (16-(j+1)) rz)).toArray.size from by
      rw[List.size_toArray,FD (λx hx=>by
       rcases List.mem_append.1 hx with hx|hx
       ·exact HPRE.out x hx
       ·rcases List.mem_cons.1 hx with rfl|hx
        ·rfl
        ·rw[(List.mem_replicate.1 hx).2];rfl)]
      have:=HYL.out;simp;omega)
     clear BR B3 R3 hkr;rw[show(nvB y gk).ka=some ⟨gk,0,none⟩from rfl,show(nvB y gk).kn=16 from rfl,show(nvB y gk).kc=16 from rfl]at c37;go_upto_region 9 with(first|refine Cz rfl _ rfl w2.heap.size 0 rfl r' HL.out HBR.out.all ?_|refine PB rfl _ _ rfl gk (j*34) r' HL.out rfl rfl 62 _ HKR.out HFIT.out ?_);refine gen_w (p:=λv=>Code.wp _ _ _ _ v) (q:=λv=>Bk w v y gk gn ((ys++[r'])++List.replicate (16-(j+1)) rz)/\RefsAt (Own (w.heap.size+4) v) v (ys++[r']) (rs++[r])) ?_ ?_
     ·have hf:=WB (pre:=ys) (z:=rz) (y:=r') (post:=List.replicate (16-(j+1)) rz) HPRE.out rfl;rw[HYL.out]at hf;rw[hf,show ys++r'::List.replicate (16-(j+1)) rz=(ys++[r'])++List.replicate (16-(j+1)) rz from by simp];exact⟨HB3.out.put,HR3.out.go (Keep.setRow (base:=w.heap.size+4) (base':=w.heap.size+4) (g:=gk) (by have:=HB3.out.gk2;omega) (Nat.le_refl _))⟩
     rintro v4⟨B4,R4⟩;have HB4:=Xba B4;have HR4:=Xba R4;clear B4 R4 c37;go_wp2_with fail;exact⟨⟨j+1,by omega,by simp,ys++[r'],rs++[r],HKS.out,by have:=HYL.out;simp;omega,HB4.out,HR4.out⟩,by simp[intOf];omega⟩
   ·have hji:¬(j:Int)<16:=(by omega);have hj16:j=16:=(by omega);subst hj16;have hkp:=HKP.out;rw[List.take_of_length_le (by rw[H16.out];omega)]at hkp;have hr:=HRES.out;rw[hkp]at hr;have hr:(if y.l=true then none else some (⟨3,[],bs2,r0,rs⟩:PN))=res:=hr;have HR:=Xba hr;have hB:=HB.out;rw[show ys++List.replicate (16-16) rz=ys from by simp]at hB;have HBF:=Xba hB;clear hkp hr hB HB hj;go_upto_region 10 with fail;rename_i KK hkk;refine wp_region_held_drew (S:=λv=>NBx gn v (nvB y gk)/\B1 w.heap.size v y) (by kernel_rfl) ⟨⟨HBF.out.nb.row,HBF.out.nb.l⟩,HBF.out.bx.c0,HBF.out.bx.c1,HBF.out.bx.c2⟩ (λhS=>?_);refine Bh 0 36 (.agg (nvB y gk).cells.toArray) rfl rfl (by kernel_rfl) (by kernel_rfl) (by kernel_rfl) (λ_ _ _ h=>h) (by kernel_rfl) (λv hv=>TT rfl (by kernel_rfl) hv.1) hS ?_;refine Bh 1 37 (.pointer (some ⟨w.heap.size,0,none⟩)) rfl rfl (by kernel_rfl) (by kernel_rfl) (by kernel_rfl) (λ_ _ _ h=>h) (by kernel_rfl) (λv _=>by kernel_rfl) hS ?_;refine Bh 2 38 (.bool y.l) rfl rfl (by kernel_rfl) (by kernel_rfl) (by kernel_rfl) (λ_ _ _ h=>h) (by kernel_rfl) (λv hv=>Pv rfl (by kernel_rfl) hv.2.c0) hS ?_;refine Bh 3 39 (.bool (!y.l)) rfl rfl (by kernel_rfl) (by kernel_rfl) (by kernel_rfl) (λ_ _ _ h=>h) (by kernel_rfl) (λv _=>by kernel_rfl) hS ?_;refine wpAnyH_ready (rs:=[4]) (by kernel_rfl) (by simp) ?_;refine DG 4 rfl rfl (by kernel_rfl) (D3 92 _ _ rfl (w.heap.size+1) (nvB y gk).cells.toArray (by kernel_rfl) (by kernel_rfl) 92 nz.cells.toArray HBF.out.row (CL rfl) (Cv rfl) (all_oneCell_toArray (NV.one _))) ?_ ?_ AllReadyH.nil
    ·exact⟨⟨(setRow_other _ _ _ _ (by have:=HBF.out.gn2;omega)).trans hS.1.row,hS.1.l⟩,DO hS.2 (by omega)⟩
    refine Bh 5 5 (.bool (!y.l)) rfl rfl (by kernel_rfl) (by kernel_rfl) (by kernel_rfl) (λ_ _ _ h=>h) (by kernel_rfl) (λv _=>by kernel_rfl) ⟨⟨(setRow_other _ _ _ _ (by have:=HBF.out.gn2;omega)).trans hS.1.row,hS.1.l⟩,DO hS.2 (by omega)⟩ ?_;refine wpAnyH_done (by kernel_rfl) ?_ _;refine hkk _ _ ?_;refine Gw results99 (λh=>h) (w.heap.size+1) (nvB y gk) (.bool (!y.l)) rfl (by kernel_rfl) (by kernel_rfl) (by kernel_rfl) (setRow_heap _ _ _ _ _ _ HBF.out.row) ?_;refine⟨Below.setRow HBF.out.bel.drew (by omega) _,?_⟩;have hr:=HR.out;cases hyl:y.l with
    |true=>
     rw[hyl,if_pos rfl]at hr;subst hr;exact⟨nvB y gk,rfl,rfl⟩
    |false=>
     rw[hyl,if_neg (by simp)]at hr;subst hr;have hkr:(wr.drew.setRow (w.heap.size+1) (nvB y gk).cells.toArray).heap[gk]?=some (.cells (flatR ys).toArray 62):=(setRow_other _ _ _ _ (by have:=HBF.out.gk2;omega)).trans HBF.out.kr
     have hk1:Keep (Own (w.heap.size+4) wr) (OwnP P (wr.drew.setRow (w.heap.size+1) (nvB y gk).cells.toArray)) wr (wr.drew.setRow (w.heap.size+1) (nvB y gk).cells.toArray):=
      Keep.setRowP (v:=wr.drew) (base:=w.heap.size+4) (by omega) (λk hk=>HBASE.out k (by omega))
     have hk2:Keep (OwnP P w) (OwnP P (wr.drew.setRow (w.heap.size+1) (nvB y gk).cells.toArray)) w (wr.drew.setRow (w.heap.size+1) (nvB y gk).cells.toArray):=λk hK hk=>by
      have e:(wr.drew.setRow (w.heap.size+1) (nvB y gk).cells.toArray).heap[k]?=w.heap[k]?:=(setRow_other _ _ _ _ (by omega)).trans (HBF.out.bel.block k hk);exact⟨e,hK.1,λo=>(World.frozen?_of_block (w:=w) e).trans (hK.2 o)⟩
     have hra:=HRA.out.go hk1;have hrl:rs.length=16:=(by rw[hra.1,HYL.out]);refine⟨nvB y gk,rfl,rfl,Fz _ _,(Io HY.out).go hk2,Fc _ _,⟨hrl.symm,Nat.le_refl _,by show 16<=maxLen;unfold maxLen;omega,by show 16<=2199023255488;omega,λh=>by cases h⟩,?_⟩;exact QO hkr ⟨HBASE.out gk (by have:=HBF.out.gk2;omega),λo=>frozen_of_row _ _ _ _ _ hkr⟩ hra
end Go.Proofs.YtalhnnjpjaeakaaGreat
