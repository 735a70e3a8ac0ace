/- The document's encoding of a list of paths, out of its node. -/
import Derived.Test.YtalhnnjpjaeakaaGreatAK
import Derived.Test.YtalhnnjpjaeakaaGreatG18
import Derived.Test.YtalhnnjpjaeakaaGreatG22
import Derived.Test.YtalhnnjpjaeakaaGreatG01
import Derived.Test.YtalhnnjpjaeakaaGreatG10
import Derived.Test.YtalhnnjpjaeakaaGreatG13
import Derived.Test.YtalhnnjpjaeakaaGreatG12
import Derived.Lib.SliceRun
import Derived.Test.YtalhnnjpjaeakaaGreatG00
set_option linter.unusedVariables false
set_option maxRecDepth 100000
set_option maxHeartbeats 16000000
open Go.Proofs.Tryz Go.RowKit
namespace Go.Proofs.YtalhnnjpjaeakaaGreat
open Tr
variable {w w' : World} {a : Option Addr} {n c g gW base gK j gB gN : Nat} {K X Z : Nat → Prop} {k : Nat → Tr} {vs : Nat → Value} {vN vN' vM : Value} {y : RV} {ys : Nat → RV} {x : List Int}
theorem Xat{y:NV}{t:Tr}(hne:t≠no)(h:NodeAt (λ_=>True) w y (nodeP t)):
 Calls prog 73 #[.agg y.cells.toArray] w λe w'=>∃u,e= .returned u/\(∃a m c z,u= .tuple #[.slice a m c, .int .i64 z]/\Sk (λ_=>True) w' a m c (encT t)/\m<=65540)/\Bl w w':=
 (OF _ y (nodeP t) w h).mono (λe w'⟨⟨a,m,c,e1,h1,_⟩,h2⟩=>⟨_,e1,⟨a,m,c,_,rfl,⟨by rw[JW hne];unfold NEP;split<;>simp_all,λ_ _ _=>trivial⟩,by have h9:=SS h.okN;have h8:=h1.l;unfold NEP at h9;split at h9<;>simp_all⟩,h2⟩)
theorem Kc{t:Tr}(hne:t≠no)(hNd:Calls prog 74 #[.slice a n c] w λe w'=>∃u,e= .returned u/\RN7 w t u w'):
 Calls prog 50 #[.slice a n c] w λe w'=>∃u,e= .returned u/\RB7 w t u w':=by
 have hB:=Bl.refl w;refine DB func50 12<|Hc 8 (R:=RN7 w t) (hNd) ?_;rintro _ u1⟨⟨y,rfl,hN⟩,hb1⟩;refine Hc 0 (R:=λu w'=>(∃a m c z,u= .tuple #[.slice a m c, .int .i64 z]/\Sk (λ_=>True) w' a m c (encT t)/\m<=65540)/\Bl u1 w') (Xat hne hN) ?_;rintro _ u2⟨⟨a2,m2,c2,z2,rfl,hs2,hm2⟩,hb2⟩;replace hB:=(hB.go hb1).go hb2;exact Hr 14 (.slice a2 m2 c2) ⟨_,rfl,⟨a2,m2,c2,rfl,hs2,hm2⟩,hB⟩
theorem PZ(b k:Nat)(hk:k≠b):∀(vs:List Value)(o:Nat)(w:World),(w.setCells b o vs).heap[k]?=w.heap[k]?
 |[],_,_=>rfl
 |v::r,o,w=>(PZ b k hk r (o+1) _).trans (A8 _ _ _ _ hk)
theorem Ta(b:Nat):∀(vs:List Value)(o:Nat)(w:World),(w.setCells b o vs).os=w.os/\(w.setCells b o vs).tape=w.tape/\(w.setCells b o vs).output=w.output/\(w.setCells b o vs).heap.size=w.heap.size
 |[],_,_=>⟨rfl,rfl,rfl,rfl⟩
 |v::r,o,w=>by
  obtain⟨h1,h2,h3,h4⟩:=Ta b r (o+1) (w.setCell ⟨b,o,none⟩ v);exact⟨h1,h2,h3,h4.trans (by simp)⟩
theorem WX(b:Nat)(t:TypeId):∀(vs:List Value)(o:Nat)(w:World)(cur:Array Value),w.heap[b]?=some (.cells cur t (0,0))->∃cur':Array Value,(w.setCells b o vs).heap[b]?=some (.cells cur' t (0,0))/\cur'.size=cur.size
 |[],_,_,cur,h=>⟨cur,h,rfl⟩
 |v::r,o,w,cur,h=>by
  obtain⟨c',h1,h2⟩:=WX b t r (o+1) (w.setCell ⟨b,o,none⟩ v) _ (AN w b o cur t v h);exact⟨c',h1,by rw[h2];simp⟩
structure St(w w':World)(g:Nat):Prop where
 other:∀k,k≠g->w'.heap[k]?=w.heap[k]?
 os:w'.os=w.os
 tape:w'.tape=w.tape
 output:w'.output=w.output
 size:w'.heap.size=w.heap.size
theorem St.of(w:World)(g o:Nat)(vs:List Value):St w (w.setCells g o vs) g:=by
 obtain⟨h1,h2,h3,h4⟩:=Ta g vs o w;exact⟨λk hk=>PZ g k hk vs o w,h1,h2,h3,h4⟩
theorem Sk.st{bs:List Int}(h:Sk K w a n c bs)(hp:St w w' g)(hK:∀b,K b->b≠g):Sk K w' a n c bs:=by
 refine⟨⟨?_,h.ag.nil,h.ag.l,h.ag.b⟩,h.k⟩;rcases h.ag.i with h1|⟨gb,off,h1,h2,h3,h4,h5,h7⟩
 ·exact .inl h1
 ·exact .inr ⟨gb,off,h1,h2,h3,h4,h5,λj hj=>(Aq (show w'.heap[gb]?=w.heap[gb]? from hp.other gb (hK gb (h.k _ h1 h3)))).trans (h7 j hj)⟩
theorem TA.st(hp:St w w' g)(hK:∀b,K b->b≠g):∀{t:Tr}{v:Value},TA K w t v->TA K w' t v:=by
 intro t
 induction t with
 |no=>intro v h;exact h
 |leaf p x=>rintro v⟨a,n,c,a',n',c',h1,h2,h3,h4⟩;exact⟨a,n,c,a',n',c',h1,h2.st hp hK,h3.st hp hK,h4⟩
 |ext p t ih=>rintro v⟨a,n,c,u,h1,h2,h3⟩;exact⟨a,n,c,u,h1,h2.st hp hK,ih h3⟩
 |br k x ih=>rintro v⟨vs,a,n,c,h1,h2,h3,h4⟩;exact⟨vs,a,n,c,h1,λi hi=>ih i (h2 i hi),h3.st hp hK,h4⟩
theorem TK.st(h:TK K w k vs)(hp:St w w' g)(hK:∀b,K b->b≠g):TK K w' k vs:=λi hi=>(h i hi).st hp hK
theorem TA.aged:∀{t:Tr}{v:Value},TA (KW gW vN X) w t v->TA (KW gW vN (λb=>b<w.heap.size)) w t v:=by
 intro t
 induction t with
 |no=>intro v h;exact h
 |leaf p x=>rintro v⟨a,n,c,a',n',c',h1,h2,h3,h4⟩;exact⟨a,n,c,a',n',c',h1,h2.aged,h3.aged,h4⟩
 |ext p t ih=>rintro v⟨a,n,c,u,h1,h2,h3⟩;exact⟨a,n,c,u,h1,h2.aged,ih h3⟩
 |br k x ih=>rintro v⟨vs,a,n,c,h1,h2,h3,h4⟩;exact⟨vs,a,n,c,h1,λi hi=>ih i (h2 i hi),h3.aged,h4⟩
theorem TK.aged(h:TK (KW gW vN X) w k vs):TK (KW gW vN (λb=>b<w.heap.size)) w k vs:=λi hi=>(h i hi).aged
theorem Rf.st{r:PR}(h:Rf K w y r)(hp:St w w' g)(hK:∀b,K b->b≠g):Rf K w' y r:=⟨h.at'.go (λb hb _=>⟨hp.other b (hK b hb),hb⟩)⟩
theorem Rw.st{g':Nat}{cells:Array Value}{T:TypeId}(h:Rw g w cells T)(hp:St w w' g')(hne:g≠g'):Rw g w' cells T:=(hp.other g hne).trans h
theorem Wt.st{ns:List (List Int)}{old:Array Value}{T:TypeId}(h:Wt w gW base vN X ns)(hr:w.heap[g]?=some (.cells old T (0,0)))(h1:T≠27)(h2:T≠81)(hX:∀b,X b->b≠g)(hp:St w w' g):Wt w' gW base vN X ns:=by
 obtain⟨vals,⟨q1,ho⟩,hv⟩:=h.o;have hne:gW≠g:=by
  rintro rfl;have:=h.r;rw[Rw,hr]at this;simp at this;exact h2 this.2
 refine⟨(hp.other _ hne).trans h.r,⟨vals,⟨q1,?_⟩,hv.1,λj u hu=>?_⟩,h.b⟩
 case refine_2=>
  obtain⟨a,n,c,e,hs,hw⟩:=hv.2 j u hu;exact⟨a,n,c,e,hs.st hp (λb hb=>hX b hb.2.2),hw.at hs (λb hK _=>hp.other b (hX b hK.2.2))⟩
 rcases ho with q|⟨g',cap,cur,e1,e2,e3,e4⟩
 ·exact .inl q
 ·refine .inr ⟨g',cap,cur,e1,e2,(hp.other _ ?_).trans e3,e4⟩;rintro rfl;rw[hr]at e3;simp at e3;exact h1 e3.2
theorem Wg.st{v v':World}(h:Wg w v gW vN vN')(hp:St v v' g)(hg:w.heap.size<=g):Wg w v' gW vN vN':=
 ⟨hp.os.trans h.os,hp.tape.trans h.tape,hp.output.trans h.output,by rw[hp.size];exact h.size,λk hk h1 h2=>(hp.other k (by omega)).trans (h.block k hk h1 h2),h.own⟩
def kz:Array Value:=(Array.range 544).map (λx=>rz.cells.toArray[x%34]!)
def updR(ys:Nat->RV)(i:Nat)(y:RV):Nat->RV:=λj=>if j=i then y else ys j
structure Kr(gK:Nat)(w:World)(ys:Nat->RV):Prop where
 row:∃cur:Array Value,w.heap[gK]?=some (.cells cur 62 (0,0))/\cur.size=544
 rng:∀i,i<16->w.rangeAt gK (0+i*34) (ys i).cells
 ln:∀i,(ys i).d.length=32
theorem Kr.same(h:Kr gK w ys)(e:w'.heap[gK]?=w.heap[gK]?):Kr gK w' ys:=by
 obtain⟨cur,h1,h2⟩:=h.row;exact⟨⟨cur,e.trans h1,h2⟩,λi hi m v hv=>(Aq (show w'.heap[gK]?=w.heap[gK]? from e)).trans (h.rng i hi m v hv),h.ln⟩
theorem Kr.wg{ns:List (List Int)}(h:Kr gK w ys)(hg:Wg w w' gW vN vN')(hw:Wt w gW base vN X ns):Kr gK w' ys:=by
 obtain⟨cur,h1,h2⟩:=h.row;exact h.same ((hg.row hw h1 (by decide) (by decide)).trans h1.symm)
theorem Kr.lt(h:Kr gK w ys):gK<w.heap.size:=by
 obtain⟨cur,h1,h2⟩:=h.row;exact lt_of_get h1
theorem Kr.there(h:Kr gK w ys)(hj:j<16):w.there gK (0+j*34) 34:=by
 obtain⟨cur,h1,h2⟩:=h.row;intro m hm;refine⟨?_,AL _ _ _ _ _ h1⟩;rw[Ae _ _ _ _ _ _ h1,CG (by omega)];rfl
theorem Kr.put(h:Kr gK w ys)(hj:j<16)(hy:y.d.length=32):Kr gK (w.setCells gK (0+j*34) y.cells) (updR ys j y):=by
 have ht:=h.there hj;obtain⟨cur,h1,h2⟩:=h.row;obtain⟨cur',h3,h4⟩:=WX gK 62 y.cells (0+j*34) w cur h1;refine⟨⟨cur',h3,h4.trans h2⟩,λi hi=>?_,λi=>?_⟩
 ·unfold updR;by_cases e:i=j
  ·rw[Af e,e];exact World.rangeAt_setCells_same w gK (0+j*34) y.cells (by rw[RV.len hy];exact ht)
  ·rw[Ad e];refine World.rangeAt_setCells_apart (h.rng i hi) gK (0+j*34) y.cells (.inr ?_);rw[RV.len (h.ln i),RV.len hy];omega
 ·unfold updR;split
  ·exact hy
  ·exact h.ln i
theorem Kr.new(h:New w w' gK kz 62):Kr gK w' (λ_=>rz):=by
 refine⟨⟨kz,h.row,by simp[kz]⟩,λi hi m v hv=>?_,λ_=>rfl⟩;have hm:m<34:=by have:=(Aw.1 hv).1;rw[RV.len (x:=rz) rfl]at this;exact this
 rw[Ae _ _ _ _ _ _ h.row];unfold kz;rw[Array.getElem?_map,CG (by rw[Array.size_range];omega)];rw[Array.getElem_range,BN];rw[show(0+i*34+m)%34=m from by omega];rw[<-hv,getElem!_pos _ _ (by rw[Bb,RV.len (x:=rz) rfl];exact hm)];simp
theorem UB{ρ:Operand->Value}{w:World}{o:Oper}(x z:Operand){gK j:Nat}{ys:Nat->RV}{y:RV}(h:Kr gK w ys)(hj:j<16)(hy:y.d.length=32)(ho:o.op= .store 62 x z)(hx:ρ x= .pointer (some ⟨gK,0+j*34,none⟩))(hz:ρ z= .agg y.cells.toArray):
 (execOp ρ o).run prog w= .ok .skip (w.setCells gK (0+j*34) y.cells):=by
 have:=run_storeAt_mid (P:=prog) w gK (0+j*34) 62 y.cells.toArray (by rw[Fd hy];exact h.there hj) (by rw[FO,Fd hy]) (Md y);unfold execOp;simp only[ho,hx,hz,Bm,this,AH,Bp]
def rP(k:Nat->Tr)(i:Nat):PR:=if(k i).isNo then r0 else referP (encT (k i))
def nmK(k:Nat->Tr)(i:Nat):List (List Int):=if(k i).isNo then[]else nmd (k i)++nm1 (encT (k i))
def nmJ(k:Nat->Tr)(j:Nat):List (List Int):=(List.range j).flatMap (nmK k)
theorem Gz(k:Nat->Tr)(j:Nat):nmJ k (j+1)=nmJ k j++nmK k j:=by simp[nmJ,List.range_succ,List.flatMap_append]
theorem Mn(k:Nat->Tr)(i:Nat):∀d,(nmJ k i).length<=(nmJ k (i+d)).length
 |0=>Aa _
 |d+1=>by rw[<-CB,Gz,Ab];have:=Mn k i d;omega
theorem Ry:(λ(va:Option Addr)(vn vc:Nat)(ka:Option Addr)(kn kc:Nat)=>prog.built 92 [(0, .int .i64 3),(4, .slice ka kn kc),(2, .slice va vn vc)])=λva vn vc ka kn kc=>some (NV.cells ⟨3,none,0,0,va,vn,vc,rz,ka,kn,kc⟩).toArray:=by kernel_rfl
theorem UC(va:Option Addr)(vn vc:Nat)(ka:Option Addr)(kn kc:Nat):prog.built 92 [(0, .int .i64 3),(4, .slice ka kn kc),(2, .slice va vn vc)]=some (NV.cells ⟨3,none,0,0,va,vn,vc,rz,ka,kn,kc⟩).toArray:=AC (AC (AC (AC (AC (AC Ry va) vn) vc) ka) kn) kc
def RFS(t:Tr):Prop:=∀{v:World}{gW base:Nat}{vM:Value}{Y Z:Nat->Prop}{ns:List (List Int)}{val:Value},TA (KW gW vM Z) v t val->Wt v gW base vM Y ns->(∀b,v.heap.size<=b->Y b)->(ns++nmd t).length+1<=7600000000000->Calls prog 186 #[.pointer (some ⟨gW,0,none⟩),val] v λe w'=>∃u,e= .returned u/\RRf v gW base vM Y ns t u w'
structure BI(w:World)(gW base:Nat)(vN:Value)(X:Nat->Prop)(ns:List (List Int))(k:Nat->Tr)(vs:Nat->Value)(a:Option Addr)(n c:Nat)(x:List Int)(gB gN gK:Nat)(j:Nat)(vM:Value)(ys:Nat->RV)(v:World):Prop where
 hrB:Rw gB v (brc vs (.slice a n c)) 215
 hrN:Rw gN v nz.cells.toArray 92
 hK:Kr gK v ys
 hk:TK (KW gW vM (λb=>b<w.heap.size)) v k vs
 hx:Sk (KW gW vM (λb=>b<w.heap.size)) v a n c x
 hr:∀i,i<16->Rf (KW gW vM (λb=>gK<b)) v (ys i) (if i<j then rP k i else r0)
 hW:Wt v gW base vM (λb=>X b/\b≠gN/\b≠gK) (ns++nmJ k j)
 hG:Wg w v gW vN vM
theorem BI.skip{ns:List (List Int)}{v:World}(h:BI w gW base vN X ns k vs a n c x gB gN gK j vM ys v)(hno:(k j).isNo=true):BI w gW base vN X ns k vs a n c x gB gN gK (j+1) vM ys v:=by
 refine⟨h.hrB,h.hrN,h.hK,h.hk,h.hx,λi hi=>?_,by rw[Gz,show nmK k j=[]from by unfold nmK;rw[Af hno],Az];exact h.hW,h.hG⟩;have:=h.hr i hi;by_cases e:i=j
 ·subst e;rw[Ad (by omega)]at this;rw[Af (by omega),show rP k i=r0 from by unfold rP;rw[Af hno]];exact this
 ·by_cases h1:i<j
  ·rw[Af h1]at this;rw[Af (by omega)];exact this
  ·rw[Ad h1]at this;rw[Ad (by omega)];exact this
theorem BI.step{ns:List (List Int)}{v:World}(h:BI w gW base vN X ns k vs a n c x gB gN gK j vM ys v)(hj:j<16)(hno:(k j).isNo=false)(hg1:w.heap.size<=gB)(hg2:gB<gN)(hg3:gN<gK)
 {vP:Value} {u:World} (hRf:Rf (KW gW vP (λb=>v.heap.size<b)) u y (referP (encT (k j)))) (hW:Wt u gW base vP (λb=>X b/\b≠gN/\b≠gK) ((ns++nmJ k j)++(nmd (k j)++nm1 (encT (k j))))) (hG:Wg v u gW vM vP):Kr gK u ys/\BI w gW base vN X ns k vs a n c x gB gN gK (j+1) vP (updR ys j y) (u.setCells gK (0+j*34) y.cells):=by
 have hKu:=h.hK.wg hG h.hW;have hlt:=h.hK.lt;have hst:=St.of u gK (0+j*34) y.cells;have hyl:=hRf.at'.len;obtain⟨cur,hc1,hc2⟩:=hKu.row;refine⟨hKu,(h.hrB.wg hG h.hW (by decide) (by decide)).st hst (by omega),(h.hrN.wg hG h.hW (by decide) (by decide)).st hst (by omega),hKu.put hj hyl,(h.hk.wg hG).st hst (λb hb=>by have:=hb.2.2;omega),(h.hx.wg hG).st hst (λb hb=>by have:=hb.2.2;omega),λi hi=>?_,?_,(h.hG.trans hG).st hst (by omega)⟩
 ·by_cases e:i=j
  ·subst e;rw[Af (by omega),show updR ys i y i=y from by simp[updR],show rP k i=referP (encT (k i))from by unfold rP;rw[Ad (by simp[hno])]];exact(hRf.mono (λb hb=>⟨hb.1,hb.2.1,by have:=hb.2.2;omega⟩)).st hst (λb hb=>by have:=hb.2.2;omega)
  ·rw[show updR ys j y i=ys i from by simp[updR,e]];have q:=((h.hr i hi).wg hG).st hst (λb hb=>by have:=hb.2.2;omega);by_cases h1:i<j
   ·rw[Af h1]at q;rw[Af (by omega)];exact q
   ·rw[Ad h1]at q;rw[Ad (by omega)];exact q
 ·have e:ns++nmJ k (j+1)=(ns++nmJ k j)++(nmd (k j)++nm1 (encT (k j))):=by rw[Gz,show nmK k j=nmd (k j)++nm1 (encT (k j))from by unfold nmK;rw[Ad (by simp[hno])],AE]
  rw[e];exact hW.st hc1 (by decide) (by decide) (λb hb=>hb.2.2) hst
theorem UD(K:Nat->Prop)(w:World):RefAt K w rz r0:=⟨rfl,rfl,(GX w).2.2.1,rfl,⟨.inl ⟨rfl,rfl⟩,λ_=>⟨rfl,rfl⟩,rfl,λx hx=>by cases hx⟩,Ay _,λ_ _ e=>by cases e⟩
theorem YI(h:Kr gK w ys)(hr:∀i,i<16->Rf K w (ys i) (if i<16 then rP k i else r0)):KidsAt (λ_=>True) w (some ⟨gK,0,none⟩) (nodeP (br k x)).ks:=by
 intro j r hj;have hl:j<16:=by have:=(Aw.1 hj).1;simpa[nodeP]using this
 have e:r=rP k j:=by
  simp only[nodeP]at hj;rw[Bx,List.getElem?_range hl]at hj;simp at hj;rw[<-hj];rfl
 have q:=hr j hl;rw[Af hl]at q;exact⟨gK,0,ys j,rfl,trivial,h.rng j hl,by rw[e];exact q.at'.go (λb hb _=>⟨rfl,trivial⟩)⟩
theorem UE{ns:List (List Int)}(hW:Wt w gW base vN X ns)(hk:TK (KW gW vN Z) w k vs)(hx:Sk (KW gW vN Z) w a n c x)(hn2:n<=256)(hX:∀b,w.heap.size<=b->X b)(hR:∀i,i<16->k i=no∨RFS (k i))(hM:(ns++nmJ k 16).length+1<=7600000000000):
 Calls prog 182 #[.agg (brc vs (.slice a n c)), .pointer (some ⟨gW,0,none⟩)] w λe w'=>∃u,e= .returned u/\RNd w gW base vN X ns (br k x) u w':=by
 have hB:=Bl.refl w;have hW0:=hW;refine DB func182 28<|Hn 2 (brc vs (.slice a n c)) 215 ?_;intro w1 gB hnB hrB;have hgB:=hnB.hg;have hsB:=hnB.size;refine Hn 0 nz.cells.toArray 92 ?_;intro w2 gN hnN hrN;have hgN:=hnN.hg;have hsN:=hnN.size;refine KB 4 kz 62 16 ?_;intro w3 gK hnK _;have hK:=Kr.new hnK;have hgK:=hnK.hg;replace hk:=((hk.aged.go hnB.below).go hnN.below).go hnK.below;replace hx:=((hx.aged.go hnB.below).go hnN.below).go hnK.below;replace hB:=((hB.go hnB.below).go hnN.below).go hnK.below;replace hrB:=(hrB.go hnN.below).go hnK.below;replace hrN:=hrN.go hnK.below;have hI:BI w gW base vN X ns k vs a n c x gB gN gK 0 vN (λ_=>rz) w3:=⟨hrB,hrN,hK,hk,hx,λi hi=>by rw[Ad (by omega)];exact⟨UD _ _⟩,(by rw[show nmJ k 0=[]from rfl,Az];exact(hW0.mono (Y:=λb=>X b/\b≠gN/\b≠gK) (λb hb hx=>⟨hx,by omega,by omega⟩)).go hB),Wg.of_below hB⟩;have hord:w.heap.size<=gB/\gB<gN/\gN<gK:=by omega
 clear hrB hrN hK hk hx hB;refine Hx 7 (og f182 2 1) (.agg (bra vs)) (λ_=>NT hI.hrB _ rfl (by kernel_rfl))<|Ho (X:=Nat×Value×(Nat->RV)) 4 (λz=>[(11, .int .i64 ((z.1:Nat):Int)),(10, .agg (bra vs)),(5, .slice (some ⟨gK,0,none⟩) 16 16),(1, .pointer (some ⟨gW,0,none⟩)),(2, .pointer (some ⟨gB,0,none⟩)),(4, .pointer (some ⟨gN,0,none⟩))]) (λz v=>BI w gW base vN X ns k vs a n c x gB gN gK z.1 z.2.1 z.2.2 v/\z.1<=16) (λz=>16-z.1) (0,vN,λ_=>rz) ⟨hI,Ay _⟩ ?_;clear hI;rintro⟨j,vM,ys⟩ v⟨hI,hj⟩ I1 hN1;simp only at hI hj;by_cases hlt:j<16
 ·skip
  refine Ht 2 ((j:Int)<(16:Int))<|Hx 11 (og f182 4 1) (vs j) (λ_=>JI _ _ vs j hlt rfl (by kernel_rfl) (by kernel_rfl))<|Hx 7 (og f182 5 1) (.bool (!(k j).isNo)) (λ_=>Vp (hI.hk j hlt) _ _ rfl (by kernel_rfl) (by kernel_rfl)) ?_;cases hno:(k j).isNo with
  |true=>
   have hI2:=hI.skip hno;refine Hi 7 ((j:Int)+1) ((j+1:Nat):Int) ?_;exact hN1 2 (j+1,vM,ys) ⟨hI2,by omega⟩ (by show 16-(j+1)<16-j;omega) (λ_=>by kernel_rfl)
  |false=>
   have hRj:RFS (k j):=by
    rcases hR j hlt with h|h
    ·rw[h]at hno;simp[isNo]at hno
    ·exact h
   have hMj:((ns++nmJ k j)++nmd (k j)).length+1<=7600000000000:=by
    have h1:=Mn k (j+1) (15-j);rw[show j+1+(15-j)=16 from by omega,Gz,show nmK k j=nmd (k j)++nm1 (encT (k j))from by unfold nmK;rw[Ad (by simp[hno])]]at h1;simp only[Ab]at h1 hM⊢;omega
   refine Hc 8 (R:=RRf v gW base vM (λb=>X b/\b≠gN/\b≠gK) (ns++nmJ k j) (k j)) (hRj (hI.hk j hlt) hI.hW (λb hb=>⟨hX b (Al hI.hG.size hb),by have:=hI.hK.lt;omega,by have:=hI.hK.lt;omega⟩) hMj) ?_;rintro _ u1⟨y,vP,rfl,hRf,hW1,hG1⟩;have hyl:=hRf.at'.len;obtain⟨hKu,hI2⟩:=hI.step hlt hno hord.1 hord.2.1 hord.2.2 hRf hW1 hG1;refine Hx 0 (og f182 6 5) (.pointer (some ⟨gK,0+j*34,none⟩)) (λ_=>AX 90 _ _ gK 0 j 16 16 34 62 rfl (by kernel_rfl) (by kernel_rfl) hlt underlying90 (by kernel_rfl))<|Hs 0 (og f182 6 6) (λ_=>UB _ _ hKu hlt hyl rfl (by kernel_rfl) (by kernel_rfl)) ?_;generalize u1.setCells gK (0+j*34) y.cells=wS at hI2⊢;refine Hi 4 ((j:Int)+1) ((j+1:Nat):Int) ?_;exact hN1 2 (j+1,vP,updR ys j y) ⟨hI2,by omega⟩ (by show 16-(j+1)<16-j;omega) (λ_=>by kernel_rfl)
 obtain rfl:j=16:=by omega
 refine Hb 2 (decide (((16:Nat):Int)<(16:Int))) false (rfl)<|Hl 13 hI.hrB 16 27 (.slice a n c)<|Hx 0 (og f182 8 3) (.agg (NV.cells ⟨3,none,0,0,a,n,c,rz,some ⟨gK,0,none⟩,16,16⟩).toArray) (λ_=>Fq 92 _ [(0, .int .i64 3),(4, .slice (some ⟨gK,0,none⟩) 16 16),(2, .slice a n c)] _ rfl (by kernel_rfl) (UC _ _ _ _ _ _))<|Hy 0 (og f182 8 4) gN (NV.cells ⟨3,none,0,0,a,n,c,rz,some ⟨gK,0,none⟩,16,16⟩).toArray (λ_=>CL 92 _ _ _ _ _ _ rfl (by kernel_rfl) (by kernel_rfl) hI.hrN (by rw[I5,IK (y:=⟨3,none,0,0,a,n,c,rz,some ⟨gK,0,none⟩,16,16⟩) rfl]) (by rw[IK (y:=⟨3,none,0,0,a,n,c,rz,some ⟨gK,0,none⟩,16,16⟩) rfl];rfl) (QZ _)) ?_;intro wE hpE;have hrE:Rw gN wE (NV.cells ⟨3,none,0,0,a,n,c,rz,some ⟨gK,0,none⟩,16,16⟩).toArray 92:=hpE.row hI.hrN;have hxE:=hI.hx.put hpE (λb hb=>by have:=hb.2.2;omega);have hKE:=hI.hK.same (hpE.other (by omega));have hRE:=λi hi=>(hI.hr i hi).put hpE (λb hb=>by have:=hb.2.2;omega);have hWE:=(hI.hW.put hI.hrN (by decide) (by decide) (λb hb=>hb.2.1) hpE).mono (Y:=X) (λb _ hb=>hb.1);have hGE:=hI.hG.put hpE (by omega);have lx:=hxE.len;exact UT 3 (.agg (NV.cells ⟨3,none,0,0,a,n,c,rz,some ⟨gK,0,none⟩,16,16⟩).toArray) (λ_=>FD results182 _ gN ⟨3,none,0,0,a,n,c,rz,some ⟨gK,0,none⟩,16,16⟩ rfl (by kernel_rfl) hrE) ⟨_,rfl,⟨3,none,0,0,a,n,c,rz,some ⟨gK,0,none⟩,16,16⟩,vM,rfl,⟨rfl,KU _,hxE.agk (by omega),GX _,⟨(by simp[nodeP]),Aa _,(by show 16<=maxLen;unfold maxLen;omega),(by show 16<=_;omega),λe=>by cases e⟩,YI hKE hRE⟩,hWE,hGE⟩
theorem UF(x:Value):Iv "pergola/trie.node" (.iface 98 x) 170 x:=ET λw vs=>by kernel_rfl
theorem UG(x:Value):Iv "pergola/trie.node" (.iface 220 x) 190 x:=ET λw vs=>by kernel_rfl
theorem UH(x:Value):Iv "pergola/trie.node" (.iface 215 x) 182 x:=ET λw vs=>by kernel_rfl
def NDS(t:Tr):Prop:=∀{v:World}{gW base:Nat}{vM:Value}{Y Z:Nat->Prop}{ns:List (List Int)}{val:Value},TA (KW gW vM Z) v t val->Wt v gW base vM Y ns->(∀b,v.heap.size<=b->Y b)->(ns++nmd t).length+1<=7600000000000->MC "pergola/trie.node" val #[.pointer (some ⟨gW,0,none⟩)] v (RNd v gW base vM Y ns t)
theorem OG{t:Tr}(hne:t≠no)(h:NDS t){v:World}{Y:Nat->Prop}{ns:List (List Int)}{val:Value}(ht:TA (KW gW vM Z) v t val)(hW:Wt v gW base vM Y ns)(hY:∀b,v.heap.size<=b->Y b)(hM:(ns++nmd t).length+1<=7600000000000):
 Calls prog 40 #[.pointer (some ⟨gW,0,none⟩),val] v λe w'=>∃u,e= .returned u/\REn v gW base vM Y ns t u w':=by
 have hm:=h ht hW hY hM;obtain⟨T0,v0,rfl⟩:=ht.iface hne;exact QY hne hm
theorem WY{t:Tr}(hne:t≠no)(h:NDS t):RFS t:=by
 intro v gW base vM Y Z ns val ht hW hY hM
 have hE:∀v',Bl v v'->∀Y':Nat->Prop,Wt v' gW base vM Y' ns->(∀b,v'.heap.size<=b->Y' b)->Calls prog 40 #[.pointer (some ⟨gW,0,none⟩),val] v' λe w'=>∃u,e= .returned u/\REn v' gW base vM Y' ns t u w':=
  λv' hb Y' hW' hY'=>OG hne h (ht.go hb) hW' hY' hM
 obtain⟨T0,v0,rfl⟩:=ht.iface hne;by_cases hs:(encT t).length<32
 ·exact O8 hW hY hE hM hs
 ·exact PM hW hY hE hM hs
theorem Tb(t:Tr):∀{B:Nat},Tr.Ok B t->B<=64->NDS t:=by
 induction t with
 |no=>intro B hO;exact hO.elim
 |leaf p x=>
  intro B hO h64 v gW base vM Y Z ns val ht hW hY hM;obtain⟨a1,n1,c1,a2,n2,c2,rfl,h1,h2,h3⟩:=ht;exact⟨_,_,_,rfl,UF _,Uw hW h1 h2 (by have:=h1.len;have:=hO.2.1;omega) h3⟩
 |ext p t ih=>
  intro B hO h64 v gW base vM Y Z ns val ht hW hY hM;obtain⟨a1,n1,c1,u,rfl,h1,h2⟩:=ht;obtain⟨o1,o2,o3,o4,o5⟩:=hO;have hne:t≠no:=λe=>by rw[e]at o4;simp[isBr]at o4
  have hR:RFS t:=WY hne (ih o5 (by omega));have hM':(ns++nmd t).length+1<=7600000000000:=by
   simp only[nmd,Ab]at hM⊢;omega
  obtain⟨Tu,xu,rfl⟩:=h2.iface hne;exact⟨_,_,_,rfl,UG _,Ux hW h1 (by have:=h1.len;omega) hY (λv' hb Y' hW' hY'=>hR (h2.go hb) hW' hY' hM')⟩
 |br k x ih=>
  intro B hO h64 v gW base vM Y Z ns val ht hW hY hM;obtain⟨vs,a1,n1,c1,rfl,h1,h2,h3⟩:=ht;refine⟨_,_,_,rfl,UH _,UE hW h1 h2 h3 hY (λi hi=>?_) hM⟩;rcases hO.1 i with h|⟨_,_,h⟩
  ·exact .inl h
  ·exact .inr (WY h.ne (ih i h (by omega)))
end Go.Proofs.YtalhnnjpjaeakaaGreat
namespace Go.Proofs.YtalhnnjpjaeakaaGreat
open Tr
open Di (dref)
variable {w : World} {gW g c : Nat} {K : Nat → Prop} {a : Option Addr}
def rootP(t:Tr):List Int:=if t.isNo then dref [128]else dref (encT t)
theorem Wg.below{v u:World}{vN vM:Value}(h:Wg v u gW vN vM)(hb:Bl w v)(hg:w.heap.size<=gW)(hv:vN.ownBlock=none):Bl w u:=
 BX hb ⟨h.os,h.tape,h.output,h.size,λk hk=>h.block k (Bw hk hb.size) (by omega) (by rw[hv];simp)⟩
theorem Wt.new{w':World}(h:New w w' gW #[.slice none 0 0] 81):Wt w' gW gW (.slice none 0 0) (λ_=>True) []:=⟨h.row,⟨[],⟨rfl, .inl ⟨rfl,rfl⟩⟩,rfl,λj v hj=>by simp at hj⟩,Aa _⟩
theorem WZ{t:Tr}{T0:TypeId}{v0:Value}(hr:Rw g w #[.iface T0 v0] 67)(ht:TA K w t (.iface T0 v0))(hO:Tr.Ok 64 t)(hne:t≠no)(hM:(nmd t).length+1<=7600000000000):
 Calls prog 18 #[.pointer (some ⟨g,0,none⟩)] w λe w'=>∃u,e= .returned u/\(λu w'=>u= .agg (B8 (dref (encT t)))/\Bl w w') u w':=by
 have hB:=Bl.refl w;have hdl:=dref_len (encT t);obtain⟨ds,hds⟩:∃ds,dref (encT t)=ds:=⟨_,rfl⟩;rw[hds]at hdl⊢;replace ht:=ht.old;refine DB func18 16<|Hn 2 (B8 z32) 49 ?_;intro w1 g2 hn3 hr4;replace hB:=hB.go hn3.below;replace hr:=hr.go hn3.below;replace ht:=ht.go hn3.below;have hgd:=hn3.hg;refine Hl 8 hr 0 65 (.iface T0 v0)<|Hn 8 #[.slice none 0 0] 81 ?_;intro wW gW hnW _;have hzW:=hB.size;replace hB:=hB.go hnW.below;replace hr:=hr.go hnW.below;replace ht:=ht.go hnW.below;replace hr4:=hr4.go hnW.below;have hgW:=hnW.hg;have hWt:=Wt.new hnW;refine Hl 3 hr 0 65 (.iface T0 v0)<|Hc 0 (R:=REn wW gW gW (.slice none 0 0) (λ_=>True) [] t) (OG hne (Tb t hO (by omega)) (ht.mono (K':=KW gW (.slice none 0 0) (λ_=>True)) (λb hb=>⟨by omega,by simp[Value.ownBlock],trivial⟩)) hWt (λ_ _=>trivial) (by simpa using hM)) ?_;rintro _ u1⟨a2,n2,c2,vM,rfl,hs2,hW1,hG,hen,-⟩;replace hr4:=hr4.wg hG hWt (by decide) (by decide);replace hB:=hG.below hB (by omega) rfl;clear hr ht hWt;have l2:=hs2.len;refine Hc 0 (R:=λu w'=>u= .agg (B8 ds)/\Bl u1 w') ((Oy a2 n2 c2 (encT t) u1 hs2.ag (by omega)).mono (λe w' h=>⟨_,by rw[h.1,hds],rfl,h.2⟩)) ?_;rintro _ u2⟨rfl,hb2⟩;replace hr4:=hr4.go hb2;replace hB:=hB.go hb2;refine Hy 0 (og f18 3 7) g2 (B8 ds) (λ_=>CL 49 _ _ _ _ _ _ rfl (by kernel_rfl) (by kernel_rfl) hr4 (GB hdl) (Im hdl) (B8_one _)) ?_;intro uE hpE;replace hB:Bl w uE:=hpE.below hB (by omega) hB.size;have hrE:Rw g2 uE (B8 ds) 49:=hpE.row hr4;exact UT 3 (.agg (B8 ds)) (λ_=>Io results18 _ g2 ds hdl (by kernel_rfl) hrE) ⟨_,rfl,rfl,hB⟩
theorem Qa{t:Tr}(h:Tri K w g t)(hM:(nmd t).length+1<=7600000000000):
 Calls prog 18 #[.pointer (some ⟨g,0,none⟩)] w λe w'=>∃u,e= .returned u/\u= .agg (B8 (rootP t))/\Bl w w':=by
 obtain⟨⟨v,h1,h2⟩,h3⟩:=h;rcases h3 with rfl|hO
 ·rw[show v= .nilIface from h2]at h1;exact SJ h1
 ·have hne:=hO.ne;obtain⟨T0,v0,rfl⟩:=h2.iface hne;rw[show rootP t=dref (encT t)from by unfold rootP;rw[Ad (λe=>hne (isNo_iff.1 e))]];exact WZ h1 h2 hO hne hM
theorem Xa:
 Calls prog 34 #[.slice a 0 c] w λe w'=>∃u,e= .returned u/\(λu w'=>u= .agg (B8 (dref [128]))/\Bl w w') u w':=by
 have hB:=Bl.refl w;have hdl:=dref_len [128];obtain⟨ds,hds⟩:∃ds,dref [128]=ds:=⟨_,rfl⟩;rw[hds]at hdl⊢;refine DB func34 11 ?_;have hz0:=hB.size;refine Hn 2 (B8 z32) 49 ?_;intro w1 g2 hn3 hr4;have hgd:=hn3.hg;refine Hc 13 (R:=λu w'=>u= .agg (B8 ds)/\Bl (w1) w') ((GT (w1)).mono (λe w' h=>⟨_,by rw[h.1,hds],rfl,h.2⟩)) ?_;rintro _ u2⟨rfl,hb2⟩;replace hr4:=hr4.go hb2;refine Hy 0 (og f34 2 1) g2 (B8 ds) (λ_=>CL 49 _ _ _ _ _ _ rfl (by kernel_rfl) (by kernel_rfl) hr4 (GB hdl) (Im hdl) (B8_one _)) ?_;intro uE hpE;replace hB:=(hB.go hn3.below).go hb2;replace hB:Bl w uE:=hpE.below hB (by omega) hB.size;have hrE:Rw g2 uE (B8 ds) 49:=hpE.row hr4;exact UT 4 (.agg (B8 ds)) (λ_=>Io results34 _ g2 ds hdl (by kernel_rfl) hrE) ⟨_,rfl,rfl,hB⟩
theorem UI{n:Nat}{vs:List (Value×Value)}{t:Tr}{l:PList}(hRel:Rel t l)(hl:PAt K w a n c vs l)(hb:n<=2600000000000)(h0:0<n)(hlen:∀(j:Nat) k x,l[j]?=some (k,x)->k.length<=1000000)(hle:(entsR t).length<=2600000000000)(hBy:∀v,Bl w v->∀K' a' n' c' vs',PAt K' v a' n' c' vs' (entsR t)->n'<=2600000000000->Calls prog 50 #[.slice a' n' c'] v λe w'=>∃u,e= .returned u/\RB7 v t u w'):
 Calls prog 34 #[.slice a n c] w λe w'=>∃u,e= .returned u/\(λu w'=>u= .agg (B8 (dref (encT t)))/\Bl w w') u w':=by
 have hB:=Bl.refl w;have hdl:=dref_len (encT t);obtain⟨ds,hds⟩:∃ds,dref (encT t)=ds:=⟨_,rfl⟩;rw[hds]at hdl⊢;refine DB func34 11 ?_;have hz0:=hB.size;refine Hn 2 (B8 z32) 49 ?_;intro w1 g2 hn3 hr4;have hgd:=hn3.hg;refine Hz 7 (n:Int) (0:Int) ?_;replace hB:=hB.go hn3.below;refine Hc 8 (R:=λu w'=>(∃a' m' c' vs',u= .slice a' m' c'/\PAt (λb=>K b∨(w1).heap.size<=b) w' a' m' c' vs' (entsR t))/\Bl (w1) w') ((PJ (hl.go hB) hb hlen).mono (λe w'⟨u,e1,⟨a',m',c',vs',e2,e3⟩,e4⟩=>⟨u,e1,⟨a',m',c',vs',e2,by rw[hRel.ones]at e3;exact e3⟩,e4⟩)) ?_;rintro _ u1⟨⟨a1,m1,c1,vs1,rfl,hP1⟩,hb1⟩;have l1:=hP1.ll;replace hB:=hB.go hb1;refine Hc 0 (R:=RB7 u1 t) (hBy _ hB _ _ _ _ _ hP1 (by omega)) ?_;rintro _ u2⟨⟨a2,n2,c2,rfl,hs2,hm2⟩,hb2⟩;have l2:=hs2.len;refine Hc 0 (R:=λu w'=>u= .agg (B8 ds)/\Bl u2 w') ((LH a2 n2 c2 (encT t) u2 hs2.ag (by omega)).mono (λe w' h=>⟨_,by rw[h.1,hds],rfl,h.2⟩)) ?_;rintro _ u3⟨rfl,hb3⟩;replace hr4:=((hr4.go hb1).go hb2).go hb3;refine Hy 0 (og f34 3 4) g2 (B8 ds) (λ_=>CL 49 _ _ _ _ _ _ rfl (by kernel_rfl) (by kernel_rfl) hr4 (GB hdl) (Im hdl) (B8_one _)) ?_;intro uE hpE;replace hB:=(hB.go hb2).go hb3;replace hB:Bl w uE:=hpE.below hB (by omega) hB.size;have hrE:Rw g2 uE (B8 ds) 49:=hpE.row hr4;exact UT 3 (.agg (B8 ds)) (λ_=>Io results34 _ g2 ds hdl (by kernel_rfl) hrE) ⟨_,rfl,rfl,hB⟩
end Go.Proofs.YtalhnnjpjaeakaaGreat
namespace Go.Proofs.YtalhnnjpjaeakaaGreat
open Tr
def kidR(k:Nat->Tr)(i:Nat):PR:=if(k i).isNo then r0 else referP (encT (k i))
theorem Mo{ρ:Operand->Value}{w:World}{x:Operand}{o:Oper}(ho:o.op= .buildSlice 90 1 #[(0,x)])(r:RV)(hl:r.d.length=32)(hx:ρ x= .agg r.cells.toArray):
 (execOp ρ o).run prog w= .ok (.value (.slice (some ⟨w.heap.size,0,none⟩) 1 1)) (w.alloc (.cells r.cells.toArray 62)):=by
 unfold execOp;rw[ho];simp only[Ci,B9,C6,hx,Bm,Ml w r hl,AH,Bp]
theorem Qb{w w':World}{v u r:Value}{ρ:Operand->Value}{o:Oper}(hr:∀ty,(Builtin.append_ #[90,90] ty #[v,u]).run prog w= .ok r w')(x y:Operand)(ho:o.op= .call {callee:= .builtin .append,args:=#[x,y],argTypes:=#[90,90]})(hx:ρ x=v)(hy:ρ y=u):(execOp ρ o).run prog w= .ok (.value r) w':=by
 unfold execOp;simp only[ho,resolve,invoke,builtin,Bm,Bp,AH,Ci,B9,C6,hx,hy,hr]
theorem UJ(K:Nat->Prop)(w:World):RefAt K w rz r0:=⟨rfl,rfl,λx hx=>by rw[CY.1 hx|>.2];omega,rfl,⟨.inl ⟨rfl,rfl⟩,λ_=>⟨rfl,rfl⟩,rfl,λx hx=>by cases hx⟩,Ay _,λg off h=>by cases h⟩
theorem N7(k:Nat->Tr)(i:Nat):(List.range (i+1)).map (kidR k)=(List.range i).map (kidR k)++[kidR k i]:=by rw[CE,BA];rfl
theorem Xb{l:PList}{e:List Int×List Int}{j:Nat}(hj:l[j]?=some e):valP [] (l.take (j+1))=if e.1=[]then e.2 else valP [] (l.take j):=by
 unfold valP;rw[BQ,hj,List.foldl_append];rfl
theorem Xc{K:Nat->Prop}{w:World}{a:Option Addr}{n c:Nat}{vs:List (Value×Value)}{k:Nat->Tr}{x:List Int}{B:Nat}(hO:Tr.Ok B (br k x))(hl:PAt K w a n c vs (entsR (br k x)))(hb:n<=2600000000000)(hlen:∀(j:Nat) q y,(entsR (br k x))[j]?=some (q,y)->q.length<=1000000)(hxl:x.length<=256)(hBy:∀i,k i≠no->∀v,Bl w v->∀K' a' n' c' vs',PAt K' v a' n' c' vs' (entsR (k i))->n'<=2600000000000->Calls prog 50 #[.slice a' n' c'] v λe w'=>∃u,e= .returned u/\RB7 v (k i) u w'):
 Calls prog 74 #[.slice a n c] w λe w'=>∃u,e= .returned u/\RN7 w (br k x) u w':=by
 have hB:=Bl.refl w;have ll:=hl.ll;have h2n:=QT hO;have h0n:0<n:=by omega
 refine DB func74 78<|Hn 2 nz.cells.toArray 92 ?_;intro wN gN hnN hrN;have hgN:=hnN.hg;have hszN:=hB.size;refine Hz 7 (n:Int) (1:Int) ?_;replace hB:=hB.go hnN.below;refine Hc 8 (R:=λu w'=>u= .int .i64 0/\Bl (wN) w') ((It (hl.go hB) hb h0n hlen).mono (λe w'⟨u,e1,e2,e3⟩=>⟨u,e1,by rw[e2,LZ hO];rfl,e3⟩)) ?_;rintro _ u1⟨rfl,hb3⟩;refine Hx 15 (og f74 6 0) (.agg (NV.cells ⟨3,none,0,0,none,0,0,rz,none,0,0⟩).toArray) (λ_=>Fq 92 _ [(0, .int .i64 3)] _ rfl (by kernel_rfl) (by kernel_rfl)) ?_;replace hrN:=hrN.go hb3;have hlN:=lt_of_get hrN;refine Hn 0 nz.cells.toArray 92 ?_;intro wB gB hnB hrB;have hgB:=hnB.hg;replace hB:=hB.go hb3;have hszB:=hB.size;refine Hy 0 (og f74 6 2) gB ((NV.cells ⟨3,none,0,0,none,0,0,rz,none,0,0⟩).toArray) (λ_=>CL 92 _ _ _ _ _ _ rfl (by kernel_rfl) (by kernel_rfl) hrB (by kernel_rfl) (by kernel_rfl) (by kernel_rfl)) ?_;intro w2 hp;replace hB:=hB.go hnB.below;replace hB:Bl w w2:=hp.below hB (by omega) hB.size;replace hrN:=hrN.go hnB.below;replace hrN:=(show Rw _ _ _ _ from(hp.other (by omega)).trans hrN);replace hrB:Rw gB w2 ((NV.cells ⟨3,none,0,0,none,0,0,rz,none,0,0⟩).toArray) 92:=hp.row hrB;have hltB:=lt_of_get hrB;refine Ho (X:=Nat×Option Addr×Nat×Nat) 9 (λz=>[(5, .int .i64 ((z.1:Nat):Int)),(2, .pointer (some ⟨gN,0,none⟩)),(4, .pointer (some ⟨gB,0,none⟩)),(0, .slice a n c)]) (λz v=>Bl w v/\Rw gN v nz.cells.toArray 92/\Rw gB v (NV.cells ⟨3,none,0,0,none,0,0,rz,z.2.1,z.2.2.1,z.2.2.2⟩).toArray 92/\SoR (gB+1) v (.slice z.2.1 z.2.2.1 z.2.2.2) ((List.range z.1).map (kidR k))/\z.1<=16) (λz=>16-z.1) (0,none,0,0) ⟨hB,hrN,hrB,SV _ _,Ay _⟩ ?_;clear hB hrN hrB;rintro⟨i,ka,kn,kc⟩ v⟨hB,hrN,hrB,hS,hi⟩ I1 hN1;simp only at hB hrN hrB hS hi;by_cases hlt:i<16
 ·skip
  have hvB:=lt_of_get hrB;have hV:=Bl.refl v;have hSv:=hS;have hB0:=hB;have hrN0:=hrN;have hrB0:=hrB;by_cases hki:k i=no
  ·skip
   refine Ht 4 ((i:Int)<(16:Int))<|Hc 11 (R:=λu w'=>(∃a' m' c' vs',u= .slice a' m' c'/\PAt (λb=>K b∨(v).heap.size<=b) w' a' m' c' vs' (entsR (k i)))/\Bl (v) w') ((JX (hl.go hB) hb i hlt).mono (λe w'⟨u,e1,⟨a',m',c',vs',e2,e3⟩,e4⟩=>⟨u,e1,⟨a',m',c',vs',e2,by rw[Gy k x hlt]at e3;exact e3⟩,e4⟩)) ?_;rintro _ u3⟨⟨a8,m8,c8,vs8,rfl,hP8⟩,hb8⟩;have l8:=hP8.ll;have hle8:=Is (i:Int) (entsR (br k x));rw[Gy k x hlt]at hle8;refine Hx 5 (og f74 11 0) (.agg rz.cells.toArray) (λ_=>Fq 62 _ [] _ rfl (by kernel_rfl) (by kernel_rfl)) ?_;replace hV:=hV.go hb8;have hszV:=hV.size;refine Hn 0 rz.cells.toArray 62 ?_;intro wR gR hnR hrR;have hgR:=hnR.hg;replace hB:=hB.go hb8;have hszR:=hB.size;refine Hy 0 (og f74 11 2) gR rz.cells.toArray (λ_=>CL 62 _ _ _ _ _ _ rfl (by kernel_rfl) (by kernel_rfl) hrR (by kernel_rfl) (by kernel_rfl) (by kernel_rfl)) ?_;intro w4 hp;replace hB:=hB.go hnR.below;replace hB:Bl w w4:=hp.below hB (by omega) hB.size;replace hrN:=(hrN.go hb8).go hnR.below;replace hrN:=(show Rw _ _ _ _ from(hp.other (by omega)).trans hrN);replace hrB:=(hrB.go hb8).go hnR.below;replace hrB:=(show Rw _ _ _ _ from(hp.other (by omega)).trans hrB);replace hV:=hV.go hnR.below;replace hV:Bl v w4:=hp.below hV (by omega) hV.size;replace hrR:Rw gR w4 rz.cells.toArray 62:=hp.row hrR;refine Hb 7 (decide ((m8:Int)>(0:Int))) false (AT (by rw[hki]at l8;simp[entsR]at l8;omega)) ?_;have hRV:RefAt (λb=>v.heap.size<=b) w4 rz (kidR k i):=(by unfold kidR;rw[Af (isNo_iff.2 hki)];exact UJ _ _);refine Hl 7 hrB 37 90 (.slice ka kn kc)<|Hx 0 (og f74 14 2) (.agg rz.cells.toArray) (λ_=>Ep 62 _ _ _ _ _ _ rfl (by kernel_rfl) hrR underlying62 rfl (Da rfl))<|Hx 0 (og f74 14 3) (.slice (some ⟨w4.heap.size,0,none⟩) 1 1) (λ_=>Mo rfl rz rfl (by kernel_rfl)) ?_;obtain⟨vT,wT,hrT,hS2,hbT⟩:=KV (base:=gB+1) (by omega) hSv hV hRV (by simp;omega) 0;refine Hx 0 (og f74 14 4) vT (λ_=>Qb (λty=>(show(Builtin.append_ #[90,90] ty #[.slice ka kn kc, .slice (some ⟨w4.heap.size,0,none⟩) 1 1]).run prog _= .ok vT wT from hrT)) _ _ rfl (by kernel_rfl) (by kernel_rfl)) ?_;obtain⟨ka2,kc2,e2,_⟩:=hS2.kids;subst e2;have hS:=hS2;have hwv:=hB0.size;replace hrN:Rw gN wT nz.cells.toArray 92:=(hbT.block gN (by omega)).trans hrN0;replace hrB:Rw gB wT (NV.cells ⟨3,none,0,0,none,0,0,rz,ka,kn,kc⟩).toArray 92:=(hbT.block gB (by omega)).trans hrB0;replace hB:Bl w wT:=⟨hbT.os.trans hB0.os,hbT.tape.trans hB0.tape,hbT.output.trans hB0.output,Al hB0.size hbT.size,λq hq=>(hbT.block q (by omega)).trans (hB0.block q hq)⟩;clear hV hrR;refine Ha 1 (og f74 14 6) gB 37 (.slice ka2 ((List.range i).map (kidR k)++[kidR k i]).length kc2) (λ_=>BO 90 _ _ gB 37 _ 92 _ hrB rfl (by kernel_rfl) (by kernel_rfl) (by show 37<38;omega) rfl rfl (by kernel_rfl)) ?_;intro w5 hst;replace hrB:Rw gB w5 (NV.cells ⟨3,none,0,0,none,0,0,rz,ka2,((List.range i).map (kidR k)++[kidR k i]).length,kc2⟩).toArray 92:=hrB.set hst (by kernel_rfl);replace hB:Bl w w5:=hst.touch.below hB (by omega) hB.size;refine Hi 5 ((i:Int)+1) ((i:Int)+1) ?_;replace hrN:=hrN.apart hst (by omega);replace hS:=hS.keep (λb hb hlt=>hst.touch.block b hlt (by omega));exact hN1 2 (i+1,ka2,((List.range i).map (kidR k)++[kidR k i]).length,kc2) ⟨hB,hrN,hrB,by show SoR _ _ _ ((List.range (i+1)).map _);rw[N7];exact hS,by show i+1<=16;omega⟩ (by show 16-(i+1)<16-i;omega) (λ_=>by kernel_rfl)
  ·skip
   have hOk:Tr.Ok (B-1) (k i):=(by rcases hO.1 i with e|e;exact absurd e hki;exact e.2.2);have hpos:=BC.2 (Ir _ hOk);refine Ht 4 ((i:Int)<(16:Int))<|Hc 11 (R:=λu w'=>(∃a' m' c' vs',u= .slice a' m' c'/\PAt (λb=>K b∨(v).heap.size<=b) w' a' m' c' vs' (entsR (k i)))/\Bl (v) w') ((JX (hl.go hB) hb i hlt).mono (λe w'⟨u,e1,⟨a',m',c',vs',e2,e3⟩,e4⟩=>⟨u,e1,⟨a',m',c',vs',e2,by rw[Gy k x hlt]at e3;exact e3⟩,e4⟩)) ?_;rintro _ u6⟨⟨a8,m8,c8,vs8,rfl,hP8⟩,hb8⟩;have l8:=hP8.ll;have hle8:=Is (i:Int) (entsR (br k x));rw[Gy k x hlt]at hle8;refine Hx 5 (og f74 11 0) (.agg rz.cells.toArray) (λ_=>Fq 62 _ [] _ rfl (by kernel_rfl) (by kernel_rfl)) ?_;replace hV:=hV.go hb8;have hszV:=hV.size;refine Hn 0 rz.cells.toArray 62 ?_;intro wR gR hnR hrR;have hgR:=hnR.hg;replace hB:=hB.go hb8;have hszR:=hB.size;refine Hy 0 (og f74 11 2) gR rz.cells.toArray (λ_=>CL 62 _ _ _ _ _ _ rfl (by kernel_rfl) (by kernel_rfl) hrR (by kernel_rfl) (by kernel_rfl) (by kernel_rfl)) ?_;intro w7 hp;replace hB:=hB.go hnR.below;replace hB:Bl w w7:=hp.below hB (by omega) hB.size;replace hrN:=(hrN.go hb8).go hnR.below;replace hrN:=(show Rw _ _ _ _ from(hp.other (by omega)).trans hrN);replace hrB:=(hrB.go hb8).go hnR.below;replace hrB:=(show Rw _ _ _ _ from(hp.other (by omega)).trans hrB);replace hV:=hV.go hnR.below;replace hV:Bl v w7:=hp.below hV (by omega) hV.size;replace hrR:Rw gR w7 rz.cells.toArray 62:=hp.row hrR;refine Ht 7 ((m8:Int)>(0:Int)) ?_;replace hP8:=(hP8.old.go hnR.below).tou hp.touch (λh=>by have:=h.2;omega);refine Hc 5 (R:=RB7 (w7) (k i)) (hBy i hki _ hB _ _ _ _ _ hP8 (by omega)) ?_;rintro _ u9⟨⟨a9,m9,c9,rfl,hs9,hm9⟩,hb9⟩;clear hP8;have l9:=hs9.len;refine Hc 0 (R:=λu w'=>(∃y:RV,u= .agg y.cells.toArray/\RefAt (Own u9.heap.size w') w' y (referP (encT (k i))))/\Bl u9 w') (ST hs9 (by omega)) ?_;rintro _ u10⟨⟨y,rfl,hRf⟩,hb10⟩;replace hV:=hV.go hb9;have hz9:=hV.size;replace hrR:=hrR.go hb9;have hlR:=lt_of_get hrR;have hyl:y.d.length=32:=(by rw[hRf.2.1];exact hRf.2.2.2.1);replace hrR:=hrR.go hb10;refine Hy 0 (og f74 13 3) gR y.cells.toArray (λ_=>CL 62 _ _ _ _ _ _ rfl (by kernel_rfl) (by kernel_rfl) hrR (Da hyl) (by rw[Bb,Bb,RV.len hyl];rfl) (Am (RV.one y))) ?_;intro w8 hp;replace hB:=(hB.go hb9).go hb10;replace hB:Bl w w8:=hp.below hB (by omega) hB.size;replace hrN:=(hrN.go hb9).go hb10;replace hrN:=(show Rw _ _ _ _ from(hp.other (by omega)).trans hrN);replace hrB:=(hrB.go hb9).go hb10;replace hrB:=(show Rw _ _ _ _ from(hp.other (by omega)).trans hrB);replace hV:=hV.go hb10;replace hV:Bl v w8:=hp.below hV (by omega) hV.size;replace hrR:Rw gR w8 y.cells.toArray 62:=hp.row hrR;have hRV:RefAt (λb=>v.heap.size<=b) w8 y (kidR k i):=(by unfold kidR;rw[Ad (λe=>hki (isNo_iff.1 e))];exact RefAt.go (λb hb _=>⟨hp.other (by have:=hb.1;omega),Al hz9 hb.1⟩) hRf);refine Hl 4 hrB 37 90 (.slice ka kn kc)<|Hx 0 (og f74 14 2) (.agg y.cells.toArray) (λ_=>Ep 62 _ _ _ _ _ _ rfl (by kernel_rfl) hrR underlying62 rfl (Da hyl))<|Hx 0 (og f74 14 3) (.slice (some ⟨w8.heap.size,0,none⟩) 1 1) (λ_=>Mo rfl y hyl (by kernel_rfl)) ?_;obtain⟨vT,wT,hrT,hS2,hbT⟩:=KV (base:=gB+1) (by omega) hSv hV hRV (by simp;omega) 0;refine Hx 0 (og f74 14 4) vT (λ_=>Qb (λty=>(show(Builtin.append_ #[90,90] ty #[.slice ka kn kc, .slice (some ⟨w8.heap.size,0,none⟩) 1 1]).run prog _= .ok vT wT from hrT)) _ _ rfl (by kernel_rfl) (by kernel_rfl)) ?_;obtain⟨ka2,kc2,e2,_⟩:=hS2.kids;subst e2;have hS:=hS2;have hwv:=hB0.size;replace hrN:Rw gN wT nz.cells.toArray 92:=(hbT.block gN (by omega)).trans hrN0;replace hrB:Rw gB wT (NV.cells ⟨3,none,0,0,none,0,0,rz,ka,kn,kc⟩).toArray 92:=(hbT.block gB (by omega)).trans hrB0;replace hB:Bl w wT:=⟨hbT.os.trans hB0.os,hbT.tape.trans hB0.tape,hbT.output.trans hB0.output,Al hB0.size hbT.size,λq hq=>(hbT.block q (by omega)).trans (hB0.block q hq)⟩;clear hV hrR;refine Ha 1 (og f74 14 6) gB 37 (.slice ka2 ((List.range i).map (kidR k)++[kidR k i]).length kc2) (λ_=>BO 90 _ _ gB 37 _ 92 _ hrB rfl (by kernel_rfl) (by kernel_rfl) (by show 37<38;omega) rfl rfl (by kernel_rfl)) ?_;intro w9 hst;replace hrB:Rw gB w9 (NV.cells ⟨3,none,0,0,none,0,0,rz,ka2,((List.range i).map (kidR k)++[kidR k i]).length,kc2⟩).toArray 92:=hrB.set hst (by kernel_rfl);replace hB:Bl w w9:=hst.touch.below hB (by omega) hB.size;refine Hi 5 ((i:Int)+1) ((i:Int)+1) ?_;replace hrN:=hrN.apart hst (by omega);replace hS:=hS.keep (λb hb hlt=>hst.touch.block b hlt (by omega));exact hN1 2 (i+1,ka2,((List.range i).map (kidR k)++[kidR k i]).length,kc2) ⟨hB,hrN,hrB,by show SoR _ _ _ ((List.range (i+1)).map _);rw[N7];exact hS,by show i+1<=16;omega⟩ (by show 16-(i+1)<16-i;omega) (λ_=>by kernel_rfl)
 obtain rfl:i=16:=by omega
 refine Hf 4 (((16:Nat):Int)<(16:Int))<|Ho (X:=Nat×Option Addr×Nat×Nat) 15 (λz=>[(8, .int .i64 ((z.1:Nat):Int)),(2, .pointer (some ⟨gN,0,none⟩)),(4, .pointer (some ⟨gB,0,none⟩)),(0, .slice a n c)]) (λz v=>Bl w v/\Rw gN v nz.cells.toArray 92/\Rw gB v (NV.cells ⟨3,none,0,0,z.2.1,z.2.2.1,z.2.2.2,rz,ka,kn,kc⟩).toArray 92/\SoR (gB+1) v (.slice ka kn kc) ((List.range 16).map (kidR k))/\Sk (λ_=>True) w z.2.1 z.2.2.1 z.2.2.2 (valP [] ((entsR (br k x)).take z.1))/\z.1<=n) (λz=>n-z.1) (0,none,0,0) ⟨hB,hrN,hrB,hS,Sk.nil _ _,Ay _⟩ ?_;clear hB hrN hrB hS;rintro⟨j,va,vn,vc⟩ v⟨hB,hrN,hrB,hS,hsV,hj⟩ I2 hN2;simp only at hB hrN hrB hS hsV hj;by_cases hlt:j<n
 ·skip
  obtain⟨gE,oE,a1,n1,c1,a2,n2,c2,q,z,ea,hej,hc1,hc2,hs1,hs2⟩:=hl.at hlt;subst ea;have lq:=hs1.len;have hvs:=Xb hej;by_cases hq:q=[]
  ·skip
   rw[Af hq]at hvs;refine Ht 6 ((j:Int)<(n:Int))<|Hx 11 (og f74 18 2) (.pointer (some ⟨gE,oE+j*2,none⟩)) (λ_=>AX 103 _ _ gE oE j n c 2 133 rfl (by kernel_rfl) (by kernel_rfl) hlt underlying103 (by kernel_rfl))<|Hx 1 (og f74 18 4) (.slice a1 n1 c1) (λ_=>AF 27 _ _ _ _ rfl (by kernel_rfl) ((BU hB (Aj hc1)).trans hc1) underlying27 rfl)<|Hb 1 ((n1:Int)==(0:Int)) true (DM.2 (by rw[hq]at lq;simp at lq;omega))<|Hx 6 (og f74 19 2) (.pointer (some ⟨gE,oE+j*2,none⟩)) (λ_=>AX 103 _ _ gE oE j n c 2 133 rfl (by kernel_rfl) (by kernel_rfl) hlt underlying103 (by kernel_rfl))<|Hx 1 (og f74 19 4) (.slice a2 n2 c2) (λ_=>AF 27 _ _ _ _ rfl (by kernel_rfl) ((BU hB (Aj hc2)).trans hc2) underlying27 rfl)<|Ha 1 (og f74 19 6) gB 2 (.slice a2 n2 c2) (λ_=>BO 27 _ _ gB 2 _ 92 _ hrB rfl (by kernel_rfl) (by kernel_rfl) (by show 2<38;omega) rfl rfl (by kernel_rfl)) ?_;intro w10 hst;replace hrB:Rw gB w10 (NV.cells ⟨3,none,0,0,a2,n2,c2,rz,ka,kn,kc⟩).toArray 92:=hrB.set hst (by kernel_rfl);replace hB:Bl w w10:=hst.touch.below hB (by omega) hB.size;refine Hi 5 ((j:Int)+1) ((j:Int)+1) ?_;replace hrN:=hrN.apart hst (by omega);replace hS:=hS.keep (λb hb hlt=>hst.touch.block b hlt (by omega));exact hN2 2 (j+1,a2,n2,c2) ⟨hB,hrN,hrB,hS,by show Sk _ _ _ _ _ (valP [] (List.take (j+1) _));rw[hvs];exact hs2.mono (λ_ _=>trivial),by show j+1<=n;omega⟩ (by show n-(j+1)<n-j;omega) (λ_=>by kernel_rfl)
  ·skip
   have hq1:=BC.2 hq;rw[Ad hq]at hvs;refine Ht 6 ((j:Int)<(n:Int))<|Hx 11 (og f74 18 2) (.pointer (some ⟨gE,oE+j*2,none⟩)) (λ_=>AX 103 _ _ gE oE j n c 2 133 rfl (by kernel_rfl) (by kernel_rfl) hlt underlying103 (by kernel_rfl))<|Hx 1 (og f74 18 4) (.slice a1 n1 c1) (λ_=>AF 27 _ _ _ _ rfl (by kernel_rfl) ((BU hB (Aj hc1)).trans hc1) underlying27 rfl)<|Hz 1 (n1:Int) (0:Int)<|Hi 8 ((j:Int)+1) ((j:Int)+1) ?_;exact hN2 2 (j+1,va,vn,vc) ⟨hB,hrN,hrB,hS,by show Sk _ _ _ _ _ (valP [] (List.take (j+1) _));rw[hvs];exact hsV,by show j+1<=n;omega⟩ (by show n-(j+1)<n-j;omega) (λ_=>by kernel_rfl)
 obtain rfl:j=n:=by omega
 rw[A5 (by omega),ZQ]at hsV;refine Hf 6 ((j:Int)<(j:Int))<|Hx 10 (og f74 20 0) (.agg (NV.cells ⟨3,none,0,0,va,vn,vc,rz,ka,kn,kc⟩).toArray) (λ_=>Ep 92 _ _ _ _ _ _ rfl (by kernel_rfl) hrB underlying92 rfl (by kernel_rfl))<|Hy 0 (og f74 20 1) gN ((NV.cells ⟨3,none,0,0,va,vn,vc,rz,ka,kn,kc⟩).toArray) (λ_=>CL 92 _ _ _ _ _ _ rfl (by kernel_rfl) (by kernel_rfl) hrN (by kernel_rfl) (by kernel_rfl) (by kernel_rfl)) ?_;intro w11 hp;replace hB:Bl w w11:=hp.below hB (by omega) hB.size;replace hrN:Rw gN w11 ((NV.cells ⟨3,none,0,0,va,vn,vc,rz,ka,kn,kc⟩).toArray) 92:=hp.row hrN;replace hrB:=(show Rw _ _ _ _ from(hp.other (by omega)).trans hrB);replace hS:=hS.keep (λb hb _=>hp.other (by omega));obtain⟨ka3,kc3,e3,h31,h32,h33,h34⟩:=hS.kids;injection e3 with e31 e32 e33;subst e31;subst e33;have lx:=hsV.len;exact UT 3 (.agg (NV.cells ⟨3,none,0,0,va,vn,vc,rz,ka,kn,kc⟩).toArray) (λ_=>FD results74 _ gN ⟨3,none,0,0,va,vn,vc,rz,ka,kn,kc⟩ rfl (by kernel_rfl) hrN) ⟨_,rfl,⟨_,rfl,⟨rfl,KU _,(hsV.go hB).agk (by omega),GX _,⟨e32,(by rw[e32];exact h31),h32,(by rw[e32];simp),λh=>⟨e32.trans (h33 h).1,(h33 h).2⟩⟩,KidsAt.go (λb hb _=>⟨rfl,trivial⟩) h34⟩⟩,hB⟩
end Go.Proofs.YtalhnnjpjaeakaaGreat
namespace Go.Proofs.YtalhnnjpjaeakaaGreat
open Tr
open Di (dref)
theorem N8:∀(t:Tr)(B:Nat),Tr.Ok B t->B<=64->(∀q y,(q,y)∈entsR t->q.length<=1000/\y.length<=256)->∀(K:Nat->Prop)(w:World)(a:Option Addr)(n c:Nat)(vs:List (Value×Value)),PAt K w a n c vs (entsR t)->n<=2600000000000->
 Calls prog 50 #[.slice a n c] w λe w'=>∃u,e= .returned u/\RB7 w t u w':=by
 intro t
 induction t with
 |no=>intro B hO;exact hO.elim
 |leaf p x=>
  intro B hO hB hv K w a n c vs hl hb;have hn:n=1:=hl.ll.symm;subst hn;obtain⟨h1,h2⟩:=hv p x (by simp[entsR]);exact Kc (by simp) (Rc hl h1 h2)
 |ext p t ih=>
  intro B hO hB hv K w a n c vs hl hb;refine Kc (by simp) (Uy hO hB hl hb (λj k x h=>by have:=(hv k x (AK h)).1;omega) ?_);intro v _ K' a' n' c' vs' hP hn;refine ih (B-p.length) hO.2.2.2.2 (by omega) (λq y hq=>?_) K' v a' n' c' vs' hP hn;have:=hv (p++q) y (by simp only[entsR,BE];exact⟨(q,y),hq,rfl⟩);rw[Ab]at this;omega
 |br k x ih=>
  intro B hO hB hv K w a n c vs hl hb;have hx:x.length<=256:=by
   by_cases h:x=[]
   ·rw[h];simp
   ·exact(hv [] x (by simp only[entsR];rw[Ad h];simp)).2
  refine Kc (by simp) (Xc hO hl hb (λj q y h=>by have:=(hv q y (AK h)).1;omega) hx ?_);intro i hi v _ K' a' n' c' vs' hP hn;rcases hO.1 i with e|⟨e1,e2,e3⟩
  ·exact absurd e hi
  ·refine ih i (B-1) e3 (by omega) (λq y hq=>?_) K' v a' n' c' vs' hP hn
   have:=hv ((i:Int)::q) y (by
    simp only[entsR,AS,Cc,DT,BE];exact .inr ⟨i,e1,(q,y),hq,rfl⟩)
   rw[AP]at this;omega
theorem Rel.small{t:Tr}{l:PList}(h:Rel t l):∀q y,(q,y)∈entsR t->q.length<=1000/\y.length<=256:=by
 intro q y hm;rw[<-h.ones]at hm;obtain⟨⟨k,x⟩,hk,he⟩:=BE.1 hm;cases he;have h1:=((h.m k x).1 hk).2.1;exact⟨by rw[Ni.nib_len];show 2*k.length<=1000;omega,h.v k x hk⟩
theorem N9{K:Nat->Prop}{w:World}{a:Option Addr}{n c:Nat}{vs:List (Value×Value)}{t:Tr}{l:PList}(hRel:Rel t l)(hl:PAt K w a n c vs l)(hb:n<=2600000000000):
 Calls prog 34 #[.slice a n c] w λe w'=>∃u,e= .returned u/\u= .agg (B8 (rootP t))/\Bl w w':=by
 have ll:=hl.ll;have le:(entsR t).length=n:=by rw[<-hRel.ones];unfold onesP;rw[Ba];exact ll
 rcases hRel.ok with rfl|hO
 ·have hn:n=0:=le.symm;subst hn;exact Xa
 ·have hne:=hO.ne;have h0:=BC.2 (Ir _ hO);rw[show rootP t=dref (encT t)from by unfold rootP;rw[Ad (λe=>hne (isNo_iff.1 e))]];exact UI hRel hl hb (by omega) (λj k x h=>by have:=((hRel.m k x).1 (AK h)).2.1;omega) (by omega) (λv _ K' a' n' c' vs' hP hn=>N8 t 64 hO (Aa _) hRel.small K' v a' n' c' vs' hP hn)
end Go.Proofs.YtalhnnjpjaeakaaGreat
namespace Go.Proofs.YtalhnnjpjaeakaaGreat
variable {K : Nat → Prop} {w v' : World} {p p' : Value × List Int} {gb n m m2 q i : Nat} {ps qs : List (Value × List Int)} {M : List (List Int)} {a b : List Int} {cur : Array Value}
def Gd(K:Nat->Prop)(w:World)(p:Value×List Int):Prop:=∃a n c,p.1= .slice a n c/\Sk K w a n c p.2
theorem Gd.tou{w':World}{g:Nat}(h:Gd K w p)(t:Touch g w w')(hg:¬K g):Gd K w' p:=by
 obtain⟨a,n,c,h1,h2⟩:=h;exact⟨a,n,c,h1,h2.tou t hg⟩
theorem Touch.setCells(g:Nat):∀(vs:List Value)(w:World)(o:Nat),Touch g w (w.setCells g o vs)
 |[],w,o=>Touch.refl g w
 |v::r,w,o=>(Touch.setCell g w o v).trans (Touch.setCells g r _ _)
theorem NA{w:World}{ρ:Operand->Value}{o:Oper}(x y:Operand)(g off k l c l2 c2:Nat)(ho:o.op= .slice 41 x (some y) none none)(hx:ρ x= .slice (some ⟨g,off,none⟩) l c)(hy:ρ y= .int .i64 (k:Int))(hl:l=k+l2)(hc:c=k+c2)(h0:0<c2):(execOp ρ o).run prog w= .ok (.value (.slice (some ⟨g,off+k*1,none⟩) l2 c2)) w:=by
 subst hl hc;unfold execOp;rw[ho];have h2:k+l2-k=l2:=by omega
 have h3:k+c2-k=c2:=by omega
 simp[hx,hy,Instr.sliceAt,B7 underlying41,Instr.slice,Instr.sliceBounds,Instr.sliceBound,asIntOf,h2,h3,Result.andThen,BM];omega
theorem YJ{w:World}{ρ:Operand->Value}{o:Oper}(x y:Operand)(g off k l c:Nat)(ho:o.op= .slice 41 x none (some y) none)(hx:ρ x= .slice (some ⟨g,off,none⟩) l c)(hy:ρ y= .int .i64 (k:Int))(hk:k<=c)(h0:0<c):(execOp ρ o).run prog w= .ok (.value (.slice (some ⟨g,off,none⟩) k c)) w:=by
 unfold execOp;rw[ho];have h1:¬(c=0):=by omega
 simp[hx,hy,Instr.sliceAt,B7 underlying41,Instr.slice,Instr.sliceBounds,Instr.sliceBound,asIntOf,h1,hk,Result.andThen,BM]
theorem Xd{w:World}{ρ:Operand->Value}{o:Oper}(x:Operand)(g off l c:Nat)(cur:Array Value)(ho:o.op= .call {callee:= .builtin .clear,args:=#[x],argTypes:=#[41]})(hx:ρ x= .slice (some ⟨g,off,none⟩) l c)(hr:Rw g w cur 27)(hl:0<l)(hs:off+l<=cur.size):(execOp ρ o).run prog w= .ok (.value (.tuple #[])) (w.setCells g off (List.replicate l (.slice none 0 0))):=by
 have hrun:=λty=>Lib.run_clear_slice (P:=prog) w 41 27 ty (.slice none 0 0) underlying41 zeroValue27 rfl rfl g off l c hl (λj hj=>by rw[Ae _ _ _ _ _ _ hr];simp;omega) (λj hj=>AL _ _ _ _ _ hr);unfold execOp;simp only[ho,resolve,invoke,builtin,Bm,Bp,AH,Ci,B9,C6,hx,hrun]
structure CI(K:Nat->Prop)(w:World)(gb n cap m:Nat)(ps:List (Value×List Int))(m2 q:Nat)(cu:Array Value)(qs:List (Value×List Int))(v:World):Prop where
 r:Rw gb v cu 27
 t:Touch gb w v
 le:m+1+(m2+1)<=n
 sz:cu.size=cap
 ql:qs.length=q
 qm:q<=m+m2+1
 ddq:qs.map Prod.snd=dd ((ps.map Prod.snd).take (m+1+(m2+1)))
 gd:∀p∈qs,Gd K w p
 tk:cu.toList.take q=qs.map Prod.fst
 rest:∀j,m+m2+1<=j->j<n->cu[j]?=(ps[j]?).map Prod.fst
theorem CI.go{cap:Nat}{cu:Array Value}{v:World}(h:CI K w gb n cap m ps m2 q cu qs v)(hb:Below v.heap.size v v'):CI K w gb n cap m ps m2 q cu qs v':=
 ⟨h.r.go hb,h.t.trans (Touch.of_below hb),h.le,h.sz,h.ql,h.qm,h.ddq,h.gd,h.tk,h.rest⟩
theorem CI.drew{cap:Nat}{cu:Array Value}{v:World}(h:CI K w gb n cap m ps m2 q cu qs v):CI K w gb n cap m ps m2 q cu qs v.drew:=h.go (Ak _ _).drew
theorem Xe(ha:M[i]?=some a)(hb:M[i+1]?=some b):M.take (i+2)=M.take i++[a,b]/\M.take (i+1)=M.take i++[a]:=by
 have e1:M.take (i+1)=M.take i++[a]:=by rw[BQ,ha];rfl
 have e2:M.take (i+2)=M.take (i+1)++[b]:=by rw[BQ,hb];rfl
 exact⟨by rw[e2,e1];simp,e1⟩
theorem KX(ha:M[i]?=some a)(hb:M[i+1]?=some b):dd (M.take (i+2))=dd (M.take (i+1))++(if b=a then[]else[b]):=by
 obtain⟨h1,h2⟩:=Xe ha hb;rw[h1,h2];exact Yp _ _ _
theorem CI.start{v:World}{cap:Nat}(hr:Rw gb v cur 27)(ht:Touch gb w v)(hcur:cur.toList.take n=ps.map Prod.fst)(hsz:cur.size=cap)(hn:ps.length=n)(hg:∀p∈ps,Gd K w p)(hm:m+1<n)(hd:dd ((ps.map Prod.snd).take (m+1))=(ps.map Prod.snd).take (m+1))(h1:ps[m]?=some p)(h2:ps[m+1]?=some p')(he:p'.2=p.2):CI K w gb n cap m ps 0 (m+1) cur (ps.take (m+1)) v:=by
 have hM1:(ps.map Prod.snd)[m]?=some p.2:=by rw[Bx,h1];rfl
 have hM2:(ps.map Prod.snd)[m+1]?=some p'.2:=by rw[Bx,h2];rfl
 refine⟨hr,ht,by omega,hsz,by simp;omega,by omega,?_,λp hp=>hg p (Bi hp),?_,λj _ hj=>?_⟩
 ·rw[show m+1+(0+1)=m+2 from rfl,KX hM1 hM2,Af he,Az,hd,List.map_take]
 ·have:=Av (List.take (m+1)) hcur;rw[Es,CM (by omega)]at this;rw[this,List.map_take]
 ·rw[<-Bx,<-hcur,AO hj,BS]
theorem CI.keep{cap:Nat}{cu:Array Value}{v:World}(h:CI K w gb n cap m ps m2 q cu qs v)(h1:ps[m+m2+1]?=some p)(h2:ps[m+m2+1+1]?=some p')(hn:m+1+(m2+1)<n)(he:p'.2=p.2):CI K w gb n cap m ps (m2+1) q cu qs v:=by
 have hM1:(ps.map Prod.snd)[m+m2+1]?=some p.2:=by rw[Bx,h1];rfl
 have hM2:(ps.map Prod.snd)[m+m2+1+1]?=some p'.2:=by rw[Bx,h2];rfl
 have hq:=h.qm;refine⟨h.r,h.t,by omega,h.sz,h.ql,by omega,?_,h.gd,h.tk,λj hj hj2=>h.rest j (by omega) hj2⟩;rw[show m+1+(m2+1+1)=m+m2+1+2 from by omega,KX hM1 hM2,Af he,Az,h.ddq,show m+1+(m2+1)=m+m2+1+1 from by omega]
theorem CI.move{cap:Nat}{cu:Array Value}{v:World}(h:CI K w gb n cap m ps m2 q cu qs v)(h1:ps[m+m2+1]?=some p)(h2:ps[m+m2+1+1]?=some p')(hn:m+1+(m2+1)<n)(hc:n<=cap)(he:¬p'.2=p.2)(hg:Gd K w p')(hs:Set1 v v' gb q p'.1)(h11:p'.1.oneCell'=true):CI K w gb n cap m ps (m2+1) (q+1) (cu.setIfInBounds q p'.1) (qs++[p']) v':=by
 have hM1:(ps.map Prod.snd)[m+m2+1]?=some p.2:=by rw[Bx,h1];rfl
 have hM2:(ps.map Prod.snd)[m+m2+1+1]?=some p'.2:=by rw[Bx,h2];rfl
 have hq:=h.qm;have hsz:=h.sz;refine⟨h.r.set hs rfl,h.t.trans hs.touch,by omega,by simp[h.sz],by simp[h.ql],by omega,?_,?_,?_,λj hj hj2=>?_⟩
 ·rw[show m+1+(m2+1+1)=m+m2+1+2 from by omega,KX hM1 hM2,Ad he,show m+m2+1+1=m+1+(m2+1)from by omega,<-h.ddq,BA];rfl
 ·intro x hx;rcases AS.1 hx with hx|hx
  ·exact h.gd x hx
  ·rw[D7.1 hx];exact hg
 ·rw[Eu,BQ,BA,<-h.tk];have:(cu.toList.set q p'.1)[q]?=some p'.1:=by rw[List.getElem?_set_self (by simp;omega)]
  rw[this,List.take_set_of_le (Aa _)];rfl
 ·rw[Array.getElem?_setIfInBounds_ne (by omega)];exact h.rest j (by omega) hj2
theorem CI.done{cap:Nat}{cu:Array Value}{v:World}(h:CI K w gb n cap m ps m2 q cu qs v)(hn:ps.length=n)(hm:m+1+(m2+1)=n)(hK:¬K gb)(vs:List Value):Bt K (v.setCells gb (0+q*1) vs) (some ⟨gb,0,none⟩) q (dd (ps.map Prod.snd))/\Touch gb w (v.setCells gb (0+q*1) vs):=by
 have ht:=h.t.trans (Touch.setCells gb vs v (0+q*1));have hd:qs.map Prod.snd=dd (ps.map Prod.snd):=by rw[h.ddq,hm,A5 (by simp;omega)]
 refine⟨⟨by rw[<-hd,Ba,h.ql],λj hj=>?_⟩,ht⟩;have hjq:j<qs.length:=by rw[h.ql];exact hj
 obtain⟨a,n',c,h1,h2⟩:=h.gd qs[j] (Bo hjq);refine⟨gb,0,a,n',c,rfl,?_,?_⟩
 ·rw[World.cell?_setCells_out gb vs (0+q*1) v _ (λ_ _=> .inl (by show 0+j*1<0+q*1;omega)),Ae _ _ _ _ _ _ h.r,<-h1];have:=Av (λl=>l[j]?) h.tk;simp only[AO hj,Bx,Ac hjq,BN,BS]at this;rw[show 0+j*1=j from by omega];exact this
 ·rw[<-hd];have e:(qs.map Prod.snd).getD j []=qs[j].2:=by simp[List.getD,hjq]
  rw[e];exact h2.tou ht hK
theorem Mp(hcur:cur.toList.take n=ps.map Prod.fst)(hn:ps.length=n)(hg:∀p∈ps,Gd K w p){j:Nat}(hj:j<n):∃a m c x,ps[j]?=some (.slice a m c,x)/\cur[j]?=some (.slice a m c)/\Sk K w a m c x:=by
 have hjp:j<ps.length:=by omega
 obtain⟨a,m,c,h1,h2⟩:=hg ps[j] (Bo hjp);refine⟨a,m,c,ps[j].2,?_,?_,h2⟩
 ·rw[Ac hjp,<-h1]
 ·have:=Av (λl=>l[j]?) hcur;simp only[AO hj,Bx,Ac hjp,BN,BS]at this;rw[this,h1]
theorem ZY(M:List (List Int))(h:0<M.length):dd (M.take (0+1))=M.take (0+1):=by
 cases M with
 |nil=>rfl
 |cons x M=>simp[dd,ddg]
theorem Xf(M:List (List Int))(h:M.length<2):dd M=M:=by
 match M,h with
 |[],_=>rfl
 |[x],_=>rfl
theorem Xau(h1:ps[m]?=some p)(h2:ps[m+1]?=some p')(hd:dd ((ps.map Prod.snd).take (m+1))=(ps.map Prod.snd).take (m+1))(he:¬p'.2=p.2):dd ((ps.map Prod.snd).take (m+1+1))=(ps.map Prod.snd).take (m+1+1):=by
 have hM1:(ps.map Prod.snd)[m]?=some p.2:=by rw[Bx,h1];rfl
 have hM2:(ps.map Prod.snd)[m+1]?=some p'.2:=by rw[Bx,h2];rfl
 rw[KX hM1 hM2,Ad he,hd,BQ (i:=m+1),hM2];rfl
theorem Qc(hr:Rw gb w cur 27)(hcur:cur.toList.take n=ps.map Prod.fst)(hn:ps.length=n)(hg:∀p∈ps,Gd K w p)(hd:dd (ps.map Prod.snd)=ps.map Prod.snd):Bt K w (some ⟨gb,0,none⟩) n (dd (ps.map Prod.snd)):=by
 rw[hd];refine⟨by simp[hn],λj hj=>?_⟩;obtain⟨a,m,c,x,h1,h2,h3⟩:=Mp hcur hn hg hj;refine⟨gb,0,a,m,c,rfl,?_,?_⟩
 ·rw[Ae _ _ _ _ _ _ hr,show 0+j*1=j from by omega];exact h2
 ·rw[List.getD,Bx,h1];exact h3
theorem MD{cap:Nat}(hr:Rw gb w cur 27)(hcur:cur.toList.take n=ps.map Prod.fst)(hsz:cur.size=cap)(hn:ps.length=n)(hle:n<=cap)(hg:∀p∈ps,Gd K w p)(hK:¬K gb)(hb:n<=7600000000002)(h2:n<2):
 Calls prog 43 #[.slice (some ⟨gb,0,none⟩) n cap, .func (.func 44) #[] #[]] w λe w'=>∃u,e= .returned u/\(λu w'=>∃k,u= .slice (some ⟨gb,0,none⟩) k cap/\Bt K w' (some ⟨gb,0,none⟩) k (dd (ps.map Prod.snd))/\Touch gb w w') u w':=by
 have hB:=Bl.refl w;refine DB func43 66<|Ht 10 ((n:Int)<(2:Int)) ?_;exact Hr 11 (.slice (some ⟨gb,0,none⟩) n cap) ⟨_,rfl,n,rfl,Qc hr hcur hn hg (Xf _ (by simp;omega)),Touch.refl _ _⟩
theorem Qd{cap:Nat}(hr:Rw gb w cur 27)(hcur:cur.toList.take n=ps.map Prod.fst)(hsz:cur.size=cap)(hn:ps.length=n)(hle:n<=cap)(hg:∀p∈ps,Gd K w p)(hK:¬K gb)(hb:n<=7600000000002)(h2:¬n<2):
 Calls prog 43 #[.slice (some ⟨gb,0,none⟩) n cap, .func (.func 44) #[] #[]] w λe w'=>∃u,e= .returned u/\(λu w'=>∃k,u= .slice (some ⟨gb,0,none⟩) k cap/\Bt K w' (some ⟨gb,0,none⟩) k (dd (ps.map Prod.snd))/\Touch gb w w') u w':=by
 have hB:=Bl.refl w;refine EP func43 rfl 66 rfl ?_;show CW _ _ _ _ _ _ _ [(0, .slice (some ⟨gb,0,none⟩) n cap),(1, .func (.func 44) #[] #[])] _;refine BG<|Bn<|rp 4 (.slice none 0 0)<|BY<|Bv<|BG<|BG<|Bn<|rp 8 (.slice (some ⟨gb,0,none⟩) n cap)<|rp 9 (.int .i64 n)<|rv 10 (.bool false) (λ_=>CO (v:= .bool (decide ((n:Int)<(2:Int)))) (by kernel_rfl) (Av Value.bool (AT (by omega))))<|BY ?_;refine Bv<|EI (λ_=>by kernel_rfl)<|Ft<|Bv<|BG<|BG<|Bn<|rp 5 (.int .i64 1)<|BY<|Bv<|FH<|RI (X:=Nat) (λm=>[(5, .int .i64 ((m+1:Nat):Int)),(0, .slice (some ⟨gb,0,none⟩) n cap),(1, .func (.func 44) #[] #[])]) (λm v=>Bl w v/\m+1<=n/\dd ((ps.map Prod.snd).take (m+1))=(ps.map Prod.snd).take (m+1)) (λm=>n-m) 0 (by exact⟨λ_=>by kernel_rfl,⟨λ_=>by kernel_rfl,⟨λ_=>by kernel_rfl,trivial⟩⟩⟩) ⟨hB,by omega,ZY _ (by simp;omega)⟩ ?_;clear hB;rintro m v⟨hB,hm,hd⟩;by_cases hlt:m+1<n
 ·skip
  obtain⟨a1,n1,c1,x1,hp1,hc1,hs1⟩:=Mp hcur hn hg (show m<n from by omega);obtain⟨a2,n2,c2,x2,hp2,hc2,hs2⟩:=Mp hcur hn hg hlt;have hS:Two K K v ⟨gb,0+(m+1)*1,none⟩ ⟨gb,0+m*1,none⟩ a2 a1 n2 c2 n1 c1 x2 x1:=⟨by rw[Ae _ _ _ _ _ _ (hr.go hB),show 0+(m+1)*1=m+1 from by omega];exact hc2,hs2.go hB,by rw[Ae _ _ _ _ _ _ (hr.go hB),show 0+m*1=m from by omega];exact hc1,hs1.go hB⟩;refine BG<|BG<|Bn<|rp 12 (.int .i64 ((m+1:Nat):Int))<|rp 13 (.slice (some ⟨gb,0,none⟩) n cap)<|rp 14 (.int .i64 n)<|rv 15 (.bool true) (λ_=>CO (v:= .bool (decide (((m+1:Nat):Int)<(n:Int)))) (by kernel_rfl) (Av Value.bool (AU (by omega))))<|BY<|Bv<|Fz (λ_=>by kernel_rfl)<|Ft<|Bv ?_;refine BG<|FH<|BG<|RK (λv=>Two K K v ⟨gb,0+(m+1)*1,none⟩ ⟨gb,0+m*1,none⟩ a2 a1 n2 c2 n1 c1 x2 x1) (by kernel_rfl) (hS.drew) ?_;replace hB:=hB.drew;replace hS:=hS.drew;refine dt 0 18 (.func (.func 44) #[] #[]) (λv hv _=>by kernel_rfl) hS<|dt 1 19 (.slice (some ⟨gb,0,none⟩) n cap) (λv hv _=>by kernel_rfl) hS<|dt 2 20 (.int .i64 ((m+1:Nat):Int)) (λv hv _=>by kernel_rfl) hS<|dt 3 21 (.pointer (some ⟨gb,0+(m+1)*1,none⟩)) (λv hv _=>AX 41 _ _ gb 0 (m+1) n cap 1 27 rfl (by kernel_rfl) (by kernel_rfl) (by omega) underlying41 (by kernel_rfl)) hS<|dt 4 22 (.slice a2 n2 c2) (λv hv _=>AF 27 _ _ _ _ rfl (by kernel_rfl) hv.cc underlying27 rfl) hS<|dt 5 23 (.slice (some ⟨gb,0,none⟩) n cap) (λv hv _=>by kernel_rfl) hS<|dt 6 24 (.int .i64 ((m+1:Nat):Int)) (λv hv _=>by kernel_rfl) hS<|dt 7 25 (.int .i64 (m:Int)) (λv hv _=>CO (v:= .int .i64 (IntKind.i64.wrap (((m+1:Nat):Int)-1))) (by kernel_rfl) (Av (Value.int .i64) (by rw[Ee (by omega) (by omega)];omega))) hS<|dt 8 26 (.pointer (some ⟨gb,0+m*1,none⟩)) (λv hv _=>AX 41 _ _ gb 0 m n cap 1 27 rfl (by kernel_rfl) (by kernel_rfl) (by omega) underlying41 (by kernel_rfl)) hS<|dt 9 27 (.slice a1 n1 c1) (λv hv _=>AF 27 _ _ _ _ rfl (by kernel_rfl) hv.cc' underlying27 rfl) hS<|OJ [10] (by kernel_rfl) (by simp) ?_;refine RN 10 28 44 #[.slice a2 n2 c2, .slice a1 n1 c1] rfl (λ_=>by kernel_rfl) (λ_=>by kernel_rfl) (R:=λu w'=>u= .bool (decide (x2=x1))/\Bl (v.drew) w') (Gk hS.sk hS.sk') (λu w' h=>hS.go h.2) ?_ UW;rintro _ u1⟨rfl,hb2⟩;replace hB:=hB.go hb2;replace hS:=hS.go hb2;refine RM (by kernel_rfl)<|Bv ?_;by_cases hpq:x2=x1
  ·skip
   rw[show(decide (x2=x1))=true from by simp[hpq]];refine Fz (λ_=>by kernel_rfl)<|BG ?_;obtain⟨l2,hl2⟩:∃l2,n=m+1+l2:=⟨n-(m+1),by omega⟩;obtain⟨e2,he2⟩:∃e2,cap=m+1+e2:=⟨cap-(m+1),by omega⟩;have hC:=CI.start (hr.go hB) (Touch.of_below hB) hcur hsz hn hg hlt hd hp1 hp2 hpq;clear hS;refine Bn<|rp 29 (.slice (some ⟨gb,0,none⟩) n cap)<|rp 30 (.int .i64 ((m+1:Nat):Int))<|rv 31 (.slice (some ⟨gb,0+(m+1)*1,none⟩) l2 e2) (λ_=>NA _ _ gb 0 (m+1) n cap l2 e2 rfl (by kernel_rfl) (by kernel_rfl) hl2 he2 (by omega))<|rp 6 (.slice (some ⟨gb,0+(m+1)*1,none⟩) l2 e2)<|BY<|Bv<|BG<|BG<|Bn<|rp 7 (.int .i64 1)<|BY ?_;refine Bv<|FH<|RI (X:=Nat×Nat×Array Value×List (Value×List Int)) (λz=>[(7, .int .i64 ((z.1+1:Nat):Int)),(5, .int .i64 ((z.2.1:Nat):Int)),(6, .slice (some ⟨gb,0+(m+1)*1,none⟩) l2 e2),(0, .slice (some ⟨gb,0,none⟩) n cap),(1, .func (.func 44) #[] #[])]) (λz v=>CI K w gb n cap m ps z.1 z.2.1 z.2.2.1 z.2.2.2 v) (λz=>n-z.1) (0,m+1,cur,ps.take (m+1)) (by exact⟨λ_=>by kernel_rfl,⟨λ_=>by kernel_rfl,⟨λ_=>by kernel_rfl,⟨λ_=>by kernel_rfl,⟨λ_=>by kernel_rfl,trivial⟩⟩⟩⟩⟩) hC ?_;clear hC hB hpq hs1 hs2 hp1 hp2 hc1 hc2;rintro⟨m2,q,cu,qs⟩ v hC;simp only at hC;show CW _ _ _ _ _ _ _ [(7, .int .i64 ((m2+1:Nat):Int)),(5, .int .i64 (q:Int)),(6, .slice (some ⟨gb,0+(m+1)*1,none⟩) l2 e2),(0, .slice (some ⟨gb,0,none⟩) n cap),(1, .func (.func 44) #[] #[])] _;have hle2:=hC.le;have hqm:=hC.qm;have hcs:=hC.sz;by_cases hl3:m2+1<l2
   ·skip
    obtain⟨a3,n3,c3,x3,hp3,-,hs3⟩:=Mp hcur hn hg (show m+m2+1<n from by omega);obtain⟨a4,n4,c4,x4,hp4,-,hs4⟩:=Mp hcur hn hg (show m+m2+1+1<n from by omega);have hc3:cu[m+m2+1]?=some (.slice a3 n3 c3):=(by rw[hC.rest _ (by omega) (by omega),hp3];rfl);have hc4:cu[m+m2+1+1]?=some (.slice a4 n4 c4):=(by rw[hC.rest _ (by omega) (by omega),hp4];rfl);have hS:Two K K v ⟨gb,0+(m+1)*1+(m2+1)*1,none⟩ ⟨gb,0+(m+1)*1+m2*1,none⟩ a4 a3 n4 c4 n3 c3 x4 x3:=⟨by rw[Ae _ _ _ _ _ _ hC.r,show 0+(m+1)*1+(m2+1)*1=m+m2+1+1 from by omega];exact hc4,hs4.tou hC.t hK,by rw[Ae _ _ _ _ _ _ hC.r,show 0+(m+1)*1+m2*1=m+m2+1 from by omega];exact hc3,hs3.tou hC.t hK⟩;refine BG<|BG<|Bn<|rp 32 (.int .i64 ((m2+1:Nat):Int))<|rp 33 (.slice (some ⟨gb,0+(m+1)*1,none⟩) l2 e2)<|rp 34 (.int .i64 l2)<|rv 35 (.bool true) (λ_=>CO (v:= .bool (decide (((m2+1:Nat):Int)<(l2:Int)))) (by kernel_rfl) (Av Value.bool (AU (by omega))))<|BY<|Bv<|Fz (λ_=>by kernel_rfl)<|Ft<|Bv ?_;refine BG<|FH<|BG<|RK (λv=>Two K K v ⟨gb,0+(m+1)*1+(m2+1)*1,none⟩ ⟨gb,0+(m+1)*1+m2*1,none⟩ a4 a3 n4 c4 n3 c3 x4 x3) (by kernel_rfl) (hS.drew) ?_;replace hC:=hC.drew;replace hS:=hS.drew;refine dt 0 38 (.func (.func 44) #[] #[]) (λv hv _=>by kernel_rfl) hS<|dt 1 39 (.slice (some ⟨gb,0+(m+1)*1,none⟩) l2 e2) (λv hv _=>by kernel_rfl) hS<|dt 2 40 (.int .i64 ((m2+1:Nat):Int)) (λv hv _=>by kernel_rfl) hS<|dt 3 41 (.pointer (some ⟨gb,0+(m+1)*1+(m2+1)*1,none⟩)) (λv hv _=>AX 41 _ _ gb (0+(m+1)*1) (m2+1) l2 e2 1 27 rfl (by kernel_rfl) (by kernel_rfl) (by omega) underlying41 (by kernel_rfl)) hS<|dt 4 42 (.slice a4 n4 c4) (λv hv _=>AF 27 _ _ _ _ rfl (by kernel_rfl) hv.cc underlying27 rfl) hS<|dt 5 43 (.slice (some ⟨gb,0+(m+1)*1,none⟩) l2 e2) (λv hv _=>by kernel_rfl) hS<|dt 6 44 (.int .i64 ((m2+1:Nat):Int)) (λv hv _=>by kernel_rfl) hS<|dt 7 45 (.int .i64 (m2:Int)) (λv hv _=>CO (v:= .int .i64 (IntKind.i64.wrap (((m2+1:Nat):Int)-1))) (by kernel_rfl) (Av (Value.int .i64) (by rw[Ee (by omega) (by omega)];omega))) hS<|dt 8 46 (.pointer (some ⟨gb,0+(m+1)*1+m2*1,none⟩)) (λv hv _=>AX 41 _ _ gb (0+(m+1)*1) m2 l2 e2 1 27 rfl (by kernel_rfl) (by kernel_rfl) (by omega) underlying41 (by kernel_rfl)) hS<|dt 9 47 (.slice a3 n3 c3) (λv hv _=>AF 27 _ _ _ _ rfl (by kernel_rfl) hv.cc' underlying27 rfl) hS<|OJ [10] (by kernel_rfl) (by simp) ?_;refine RN 10 48 44 #[.slice a4 n4 c4, .slice a3 n3 c3] rfl (λ_=>by kernel_rfl) (λ_=>by kernel_rfl) (R:=λu w'=>u= .bool (decide (x4=x3))/\Bl (v.drew) w') (Gk hS.sk hS.sk') (λu w' h=>hS.go h.2) ?_ UW;rintro _ u3⟨rfl,hb4⟩;replace hC:=hC.go hb4;replace hS:=hS.go hb4;refine dt 11 49 (.bool (!(decide (x4=x3)))) (λv hv _=>by kernel_rfl) hS<|RM (by kernel_rfl)<|Bv ?_;by_cases hpz:x4=x3
    ·skip
     rw[show(!(decide (x4=x3)))=false from by simp[hpz]];refine EI (λ_=>by kernel_rfl)<|Ft<|Gh<|Bv<|Bn<|rp 36 (.int .i64 ((m2+1:Nat):Int))<|rv 37 (.int .i64 ((m2+1+1:Nat):Int)) (λ_=>CO (v:= .int .i64 (IntKind.i64.wrap (((m2+1:Nat):Int)+1))) (by kernel_rfl) (Av (Value.int .i64) (by rw[Ee (by omega) (by omega)];omega)))<|rp 7 (.int .i64 ((m2+1+1:Nat):Int))<|BY ?_;exact La (E:=λz=>[(7, .int .i64 ((z.1+1:Nat):Int)),(5, .int .i64 ((z.2.1:Nat):Int)),(6, .slice (some ⟨gb,0+(m+1)*1,none⟩) l2 e2),(0, .slice (some ⟨gb,0,none⟩) n cap),(1, .func (.func 44) #[] #[])]) (R:=λz v=>CI K w gb n cap m ps z.1 z.2.1 z.2.2.1 z.2.2.2 v) (μ:=λz=>n-z.1) (x:=(m2,q,cu,qs)) (m2+1,q,cu,qs) (by exact⟨λ_=>by kernel_rfl,⟨λ_=>by kernel_rfl,⟨λ_=>by kernel_rfl,⟨λ_=>by kernel_rfl,⟨λ_=>by kernel_rfl,trivial⟩⟩⟩⟩⟩) (hC.keep hp3 hp4 (by omega) hpz) (by show n-(m2+1)<n-m2;omega)
    ·skip
     rw[show(!(decide (x4=x3)))=true from by simp[hpz]];refine Fz (λ_=>by kernel_rfl)<|BG<|Bn<|rp 50 (.slice (some ⟨gb,0,none⟩) n cap)<|rp 51 (.int .i64 (q:Int))<|rp 52 (.slice (some ⟨gb,0+(m+1)*1,none⟩) l2 e2)<|rp 53 (.int .i64 ((m2+1:Nat):Int))<|rv 54 (.pointer (some ⟨gb,0+(m+1)*1+(m2+1)*1,none⟩)) (λ_=>AX 41 _ _ gb (0+(m+1)*1) (m2+1) l2 e2 1 27 rfl (by kernel_rfl) (by kernel_rfl) (by omega) underlying41 (by kernel_rfl))<|rv 55 (.slice a4 n4 c4) (λ_=>AF 27 _ _ _ _ rfl (by kernel_rfl) hS.cc underlying27 rfl)<|rv 56 (.pointer (some ⟨gb,0+q*1,none⟩)) (λ_=>AX 41 _ _ gb 0 q n cap 1 27 rfl (by kernel_rfl) (by kernel_rfl) (by omega) underlying41 (by kernel_rfl))<|NF gb (0+q*1) (.slice a4 n4 c4) (λ_=>by kernel_rfl) (λ_=>BO 27 _ _ gb (0+q*1) _ _ _ hC.r rfl (by kernel_rfl) (by kernel_rfl) (by omega) rfl rfl (by kernel_rfl)) ?_;intro w5 hset;replace hset:Set1 u3 w5 gb q (.slice a4 n4 c4):=(by rw[show 0+q*1=q from by omega]at hset;exact hset);replace hC:=hC.move hp3 hp4 (by omega) (by omega) hpz ⟨_,_,_,rfl,hs4⟩ hset rfl;clear hS;refine BY<|Bv<|Bn<|rp 57 (.int .i64 (q:Int))<|rv 58 (.int .i64 ((q+1:Nat):Int)) (λ_=>CO (v:= .int .i64 (IntKind.i64.wrap ((q:Int)+1))) (by kernel_rfl) (Av (Value.int .i64) (by rw[Ee (by omega) (by omega)];omega)))<|rp 5 (.int .i64 ((q+1:Nat):Int))<|BY<|Gh<|Bv<|Bn<|rp 36 (.int .i64 ((m2+1:Nat):Int))<|rv 37 (.int .i64 ((m2+1+1:Nat):Int)) (λ_=>CO (v:= .int .i64 (IntKind.i64.wrap (((m2+1:Nat):Int)+1))) (by kernel_rfl) (Av (Value.int .i64) (by rw[Ee (by omega) (by omega)];omega))) ?_;refine rp 7 (.int .i64 ((m2+1+1:Nat):Int))<|BY ?_;exact La (E:=λz=>[(7, .int .i64 ((z.1+1:Nat):Int)),(5, .int .i64 ((z.2.1:Nat):Int)),(6, .slice (some ⟨gb,0+(m+1)*1,none⟩) l2 e2),(0, .slice (some ⟨gb,0,none⟩) n cap),(1, .func (.func 44) #[] #[])]) (R:=λz v=>CI K w gb n cap m ps z.1 z.2.1 z.2.2.1 z.2.2.2 v) (μ:=λz=>n-z.1) (x:=(m2,q,cu,qs)) (m2+1,q+1,cu.setIfInBounds q (.slice a4 n4 c4),qs++[(.slice a4 n4 c4,x4)]) (by exact⟨λ_=>by kernel_rfl,⟨λ_=>by kernel_rfl,⟨λ_=>by kernel_rfl,⟨λ_=>by kernel_rfl,⟨λ_=>by kernel_rfl,trivial⟩⟩⟩⟩⟩) hC (by show n-(m2+1)<n-m2;omega)
   have hfin:m+1+(m2+1)=n:=(by omega);refine BG<|BG<|Bn<|rp 32 (.int .i64 ((m2+1:Nat):Int))<|rp 33 (.slice (some ⟨gb,0+(m+1)*1,none⟩) l2 e2)<|rp 34 (.int .i64 l2)<|rv 35 (.bool false) (λ_=>CO (v:= .bool (decide (((m2+1:Nat):Int)<(l2:Int)))) (by kernel_rfl) (Av Value.bool (AT (by omega))))<|BY<|Bv<|EI (λ_=>by kernel_rfl)<|RH<|Fu ?_;refine Fu<|IP<|Bv<|BG ?_;obtain⟨l3,hl4⟩:∃l3,n=q+l3:=⟨n-q,by omega⟩;obtain⟨e3,he3⟩:∃e3,cap=q+e3:=⟨cap-q,by omega⟩;refine Bn<|rp 59 (.slice (some ⟨gb,0,none⟩) n cap)<|rp 60 (.int .i64 (q:Int))<|rv 61 (.slice (some ⟨gb,0+q*1,none⟩) l3 e3) (λ_=>NA _ _ gb 0 q n cap l3 e3 rfl (by kernel_rfl) (by kernel_rfl) hl4 he3 (by omega)) ?_;have hF:=hC.done hn hfin hK (List.replicate l3 (.slice none 0 0));refine Xaz (.tuple #[]) (w':=World.setCells v gb (0+q*1) (List.replicate l3 (.slice none 0 0))) (λ_=>by kernel_rfl) (λ_=>Xd _ gb (0+q*1) l3 e3 _ rfl (by kernel_rfl) hC.r (by omega) (by omega)) ?_;generalize World.setCells v gb (0+q*1) (List.replicate l3 (.slice none 0 0))=wF at hF⊢;refine BY<|Bv<|BG<|Bn<|rp 62 (.slice (some ⟨gb,0,none⟩) n cap)<|rp 63 (.int .i64 (q:Int))<|rv 64 (.slice (some ⟨gb,0,none⟩) q cap) (λ_=>YJ _ _ gb 0 q n cap rfl (by kernel_rfl) (by kernel_rfl) (by omega) (by omega))<|rp 4 (.slice (some ⟨gb,0,none⟩) q cap)<|BY<|Bv<|EB<|IQ ?_;refine Fg<|Fg<|IQ<|Fg ?_;exact CN (.slice (some ⟨gb,0,none⟩) q cap) (λ_=>by kernel_rfl) ⟨_,rfl,q,rfl,hF.1,hF.2⟩
  ·skip
   rw[show(decide (x2=x1))=false from by simp[hpq]];refine EI (λ_=>by kernel_rfl)<|Ft<|Gh<|Bv<|Bn<|rp 16 (.int .i64 ((m+1:Nat):Int))<|rv 17 (.int .i64 ((m+1+1:Nat):Int)) (λ_=>CO (v:= .int .i64 (IntKind.i64.wrap (((m+1:Nat):Int)+1))) (by kernel_rfl) (Av (Value.int .i64) (by rw[Ee (by omega) (by omega)];omega)))<|rp 5 (.int .i64 ((m+1+1:Nat):Int))<|BY ?_;exact La (E:=λm=>[(5, .int .i64 ((m+1:Nat):Int)),(0, .slice (some ⟨gb,0,none⟩) n cap),(1, .func (.func 44) #[] #[])]) (R:=λm v=>Bl w v/\m+1<=n/\dd ((ps.map Prod.snd).take (m+1))=(ps.map Prod.snd).take (m+1)) (μ:=λm=>n-m) (x:=m) (m+1) (by exact⟨λ_=>by kernel_rfl,⟨λ_=>by kernel_rfl,⟨λ_=>by kernel_rfl,trivial⟩⟩⟩) ⟨hB,by omega,Xau hp1 hp2 hd hpq⟩ (by show n-(m+1)<n-m;omega)
 obtain rfl:m+1=n:=by omega
 refine BG<|BG<|Bn<|rp 12 (.int .i64 ((m+1:Nat):Int))<|rp 13 (.slice (some ⟨gb,0,none⟩) (m+1) cap)<|rp 14 (.int .i64 (m+1))<|rv 15 (.bool false) (λ_=>CO (v:= .bool (decide (((m+1:Nat):Int)<(m+1:Int)))) (by kernel_rfl) (Av Value.bool (AT (by omega))))<|BY<|Bv<|EI (λ_=>by kernel_rfl)<|RH<|Fu ?_;refine Fu<|IP<|Bv<|BG<|Bn<|rp 65 (.slice (some ⟨gb,0,none⟩) (m+1) cap)<|rp 4 (.slice (some ⟨gb,0,none⟩) (m+1) cap)<|BY<|Bv<|EB ?_;exact CN (.slice (some ⟨gb,0,none⟩) (m+1) cap) (λ_=>by kernel_rfl) ⟨_,rfl,m+1,rfl,(Qc hr hcur hn hg (by rw[<-hn,<-Ba (f:=Prod.snd),List.take_length]at hd;exact hd)).go hB,Touch.of_below hB⟩
theorem Qe{cap:Nat}(hr:Rw gb w cur 27)(hcur:cur.toList.take n=ps.map Prod.fst)(hsz:cur.size=cap)(hn:ps.length=n)(hle:n<=cap)(hg:∀p∈ps,Gd K w p)(hK:¬K gb)(hb:n<=7600000000002):
 Calls prog 43 #[.slice (some ⟨gb,0,none⟩) n cap, .func (.func 44) #[] #[]] w λe w'=>∃u,e= .returned u/\(λu w'=>∃k,u= .slice (some ⟨gb,0,none⟩) k cap/\Bt K w' (some ⟨gb,0,none⟩) k (dd (ps.map Prod.snd))/\Touch gb w w') u w':=by
 by_cases h2:n<2
 ·exact MD hr hcur hsz hn hle hg hK hb h2
 ·exact Qd hr hcur hsz hn hle hg hK hb h2
end Go.Proofs.YtalhnnjpjaeakaaGreat
