/- What a writer writes: any tree. -/
import Derived.Test.YtalhnnjpjaeakaaGreatAK
import Derived.Test.YtalhnnjpjaeakaaGreatG22
import Derived.Test.YtalhnnjpjaeakaaGreatG01
import Derived.Test.YtalhnnjpjaeakaaGreatG10
import Derived.Test.YtalhnnjpjaeakaaGreatG21
import Derived.Test.YtalhnnjpjaeakaaGreatG13
import Derived.Test.YtalhnnjpjaeakaaGreatG12
import Derived.Lib.SliceRun
import Derived.Test.YtalhnnjpjaeakaaGreatG00
set_option linter.unusedVariables false
set_option maxRecDepth 100000
set_option maxHeartbeats 16000000
open Go.Proofs.Tryz Go.RowKit
namespace Go.Proofs.YtalhnnjpjaeakaaGreat
open Tr
theorem UG(x:Value):Iv "pergola/trie.node" (.iface 98 x) 170 x:=ET λw vs=>by kernel_rfl
theorem UH(x:Value):Iv "pergola/trie.node" (.iface 220 x) 190 x:=ET λw vs=>by kernel_rfl
theorem UI(x:Value):Iv "pergola/trie.node" (.iface 215 x) 182 x:=ET λw vs=>by kernel_rfl
def NDS(t:Tr):Prop:=∀{v:World}{gW base:Nat}{vM:Value}{Y Z:Nat->Prop}{ns:List (List Int)}{val:Value},TA (KW gW vM Z) v t val->Wt v gW base vM Y ns->(∀b,v.heap.size<=b->Y b)->(ns++nmd t).length+1<=7600000000000->MC "pergola/trie.node" val #[.pointer (some ⟨gW,0,none⟩)] v (RNd v gW base vM Y ns t)
theorem OP{t:Tr}(hne:t≠no)(h:NDS t){v:World}{gW base:Nat}{vM:Value}{Y Z:Nat->Prop}{ns:List (List Int)}{val:Value}(ht:TA (KW gW vM Z) v t val)(hW:Wt v gW base vM Y ns)(hY:∀b,v.heap.size<=b->Y b)(hM:(ns++nmd t).length+1<=7600000000000):
 Calls prog 40 #[.pointer (some ⟨gW,0,none⟩),val] v λe w'=>∃u,e= .returned u/\REn v gW base vM Y ns t u w':=by
 have hm:=h ht hW hY hM;obtain⟨T0,v0,rfl⟩:=ht.iface hne;exact Rc hne hm
theorem Xc{t:Tr}(hne:t≠no)(h:NDS t):RFS t:=by
 intro v gW base vM Y Z ns val ht hW hY hM
 have hE:∀v',Bl v v'->∀Y':Nat->Prop,Wt v' gW base vM Y' ns->(∀b,v'.heap.size<=b->Y' b)->Calls prog 40 #[.pointer (some ⟨gW,0,none⟩),val] v' λe w'=>∃u,e= .returned u/\REn v' gW base vM Y' ns t u w':=
  λv' hb Y' hW' hY'=>OP hne h (ht.go hb) hW' hY' hM
 obtain⟨T0,v0,rfl⟩:=ht.iface hne;by_cases hs:(encT t).length<32
 ·exact OH hW hY hE hM hs
 ·exact PT hW hY hE hM hs
theorem Tc(t:Tr):∀{B:Nat},Tr.Ok B t->B<=64->NDS t:=by
 induction t with
 |no=>intro B hO;exact hO.elim
 |leaf p x=>
  intro B hO h64 v gW base vM Y Z ns val ht hW hY hM;obtain⟨a1,n1,c1,a2,n2,c2,rfl,h1,h2,h3⟩:=ht;exact⟨_,_,_,rfl,UG _,Ux hW h1 h2 (by have:=h1.len;have:=hO.2.1;omega) h3⟩
 |ext p t ih=>
  intro B hO h64 v gW base vM Y Z ns val ht hW hY hM;obtain⟨a1,n1,c1,u,rfl,h1,h2⟩:=ht;obtain⟨o1,o2,o3,o4,o5⟩:=hO;have hne:t≠no:=λe=>by rw[e]at o4;simp[isBr]at o4
  have hR:RFS t:=Xc hne (ih o5 (by omega));have hM':(ns++nmd t).length+1<=7600000000000:=by
   simp only[nmd,Ab]at hM⊢;omega
  obtain⟨Tu,xu,rfl⟩:=h2.iface hne;exact⟨_,_,_,rfl,UH _,Uy hW h1 (by have:=h1.len;omega) hY (λv' hb Y' hW' hY'=>hR (h2.go hb) hW' hY' hM')⟩
 |br k x ih=>
  intro B hO h64 v gW base vM Y Z ns val ht hW hY hM;obtain⟨vs,a1,n1,c1,rfl,h1,h2,h3⟩:=ht;refine⟨_,_,_,rfl,UI _,UF hW h1 h2 h3 hY (λi hi=>?_) hM⟩;rcases hO.1 i with h|⟨_,_,h⟩
  ·exact .inl h
  ·exact .inr (Xc h.ne (ih i h (by omega)))
end Go.Proofs.YtalhnnjpjaeakaaGreat
namespace Go.Proofs.YtalhnnjpjaeakaaGreat
open Tr
open Di (dref)
variable {w : World} {gW g c : Nat} {K : Nat → Prop} {a : Option Addr}
def rootP(t:Tr):List Int:=if t.isNo then dref [128]else dref (encT t)
theorem Wg.below{v u:World}{vN vM:Value}(h:Wg v u gW vN vM)(hb:Bl w v)(hg:w.heap.size<=gW)(hv:vN.ownBlock=none):Bl w u:=
 BY hb ⟨h.os,h.tape,h.output,h.size,λk hk=>h.block k (Bw hk hb.size) (by omega) (by rw[hv];simp)⟩
theorem Wt.new{w':World}(h:New w w' gW #[.slice none 0 0] 81):Wt w' gW gW (.slice none 0 0) (λ_=>True) []:=⟨h.row,⟨[],⟨rfl, .inl ⟨rfl,rfl⟩⟩,rfl,λj v hj=>by simp at hj⟩,Aa _⟩
theorem Xd{t:Tr}{T0:TypeId}{v0:Value}(hr:Rw g w #[.iface T0 v0] 67)(ht:TA K w t (.iface T0 v0))(hO:Tr.Ok 64 t)(hne:t≠no)(hM:(nmd t).length+1<=7600000000000):
 Calls prog 18 #[.pointer (some ⟨g,0,none⟩)] w λe w'=>∃u,e= .returned u/\(λu w'=>u= .agg (B8 (dref (encT t)))/\Bl w w') u w':=by
 have hB:=Bl.refl w;have hdl:=dref_len (encT t);obtain⟨ds,hds⟩:∃ds,dref (encT t)=ds:=⟨_,rfl⟩;rw[hds]at hdl⊢;replace ht:=ht.old;refine Dp func18 16<|Hn 2 (B8 z32) 49 ?_;intro w1 g2 hn3 hr4;replace hB:=hB.go hn3.below;replace hr:=hr.go hn3.below;replace ht:=ht.go hn3.below;have hgd:=hn3.hg;refine Hl 8 hr 0 65 (.iface T0 v0)<|Hn 8 #[.slice none 0 0] 81 ?_;intro wW gW hnW _;have hzW:=hB.size;replace hB:=hB.go hnW.below;replace hr:=hr.go hnW.below;replace ht:=ht.go hnW.below;replace hr4:=hr4.go hnW.below;have hgW:=hnW.hg;have hWt:=Wt.new hnW;refine Hl 3 hr 0 65 (.iface T0 v0)<|Hc 0 (R:=REn wW gW gW (.slice none 0 0) (λ_=>True) [] t) (OP hne (Tc t hO (by omega)) (ht.mono (K':=KW gW (.slice none 0 0) (λ_=>True)) (λb hb=>⟨by omega,by simp[Value.ownBlock],trivial⟩)) hWt (λ_ _=>trivial) (by simpa using hM)) ?_;rintro _ u1⟨a2,n2,c2,vM,rfl,hs2,hW1,hG,hen,-⟩;replace hr4:=hr4.wg hG hWt (by decide) (by decide);replace hB:=hG.below hB (by omega) rfl;clear hr ht hWt;have l2:=hs2.len;refine Hc 0 (R:=λu w'=>u= .agg (B8 ds)/\Bl u1 w') ((O8 a2 n2 c2 (encT t) u1 hs2.ag (by omega)).mono (λe w' h=>⟨_,by rw[h.1,hds],rfl,h.2⟩)) ?_;rintro _ u2⟨rfl,hb2⟩;replace hr4:=hr4.go hb2;replace hB:=hB.go hb2;refine Hy 0 (og f18 3 7) g2 (B8 ds) (λ_=>CH 49 _ _ _ _ _ _ rfl (by kernel_rfl) (by kernel_rfl) hr4 (GD hdl) (Ip hdl) (B8_one _)) ?_;intro uE hpE;replace hB:Bl w uE:=hpE.below hB (by omega) hB.size;have hrE:Rw g2 uE (B8 ds) 49:=hpE.row hr4;exact UX 3 (.agg (B8 ds)) (λ_=>Iq results18 _ g2 ds hdl (by kernel_rfl) hrE) ⟨_,rfl,rfl,hB⟩
theorem Mx{t:Tr}(h:Tri K w g t)(hM:(nmd t).length+1<=7600000000000):
 Calls prog 18 #[.pointer (some ⟨g,0,none⟩)] w λe w'=>∃u,e= .returned u/\u= .agg (B8 (rootP t))/\Bl w w':=by
 obtain⟨⟨v,h1,h2⟩,h3⟩:=h;rcases h3 with rfl|hO
 ·rw[show v= .nilIface from h2]at h1;exact SI h1
 ·have hne:=hO.ne;obtain⟨T0,v0,rfl⟩:=h2.iface hne;rw[show rootP t=dref (encT t)from by unfold rootP;rw[Ad (λe=>hne (isNo_iff.1 e))]];exact Xd h1 h2 hO hne hM
theorem Xe:
 Calls prog 34 #[.slice a 0 c] w λe w'=>∃u,e= .returned u/\(λu w'=>u= .agg (B8 (dref [128]))/\Bl w w') u w':=by
 have hB:=Bl.refl w;have hdl:=dref_len [128];obtain⟨ds,hds⟩:∃ds,dref [128]=ds:=⟨_,rfl⟩;rw[hds]at hdl⊢;refine Dp func34 11 ?_;have hz0:=hB.size;refine Hn 2 (B8 z32) 49 ?_;intro w1 g2 hn3 hr4;have hgd:=hn3.hg;refine Hc 13 (R:=λu w'=>u= .agg (B8 ds)/\Bl (w1) w') ((GX (w1)).mono (λe w' h=>⟨_,by rw[h.1,hds],rfl,h.2⟩)) ?_;rintro _ u2⟨rfl,hb2⟩;replace hr4:=hr4.go hb2;refine Hy 0 (og f34 2 1) g2 (B8 ds) (λ_=>CH 49 _ _ _ _ _ _ rfl (by kernel_rfl) (by kernel_rfl) hr4 (GD hdl) (Ip hdl) (B8_one _)) ?_;intro uE hpE;replace hB:=(hB.go hn3.below).go hb2;replace hB:Bl w uE:=hpE.below hB (by omega) hB.size;have hrE:Rw g2 uE (B8 ds) 49:=hpE.row hr4;exact UX 4 (.agg (B8 ds)) (λ_=>Iq results34 _ g2 ds hdl (by kernel_rfl) hrE) ⟨_,rfl,rfl,hB⟩
theorem UJ{n:Nat}{vs:List (Value×Value)}{t:Tr}{l:PList}(hRel:Rel t l)(hl:PAt K w a n c vs l)(hb:n<=2600000000000)(h0:0<n)(hlen:∀(j:Nat) k x,l[j]?=some (k,x)->k.length<=1000000)(hle:(entsR t).length<=2600000000000)(hBy:∀v,Bl w v->∀K' a' n' c' vs',PAt K' v a' n' c' vs' (entsR t)->n'<=2600000000000->Calls prog 50 #[.slice a' n' c'] v λe w'=>∃u,e= .returned u/\RB7 v t u w'):
 Calls prog 34 #[.slice a n c] w λe w'=>∃u,e= .returned u/\(λu w'=>u= .agg (B8 (dref (encT t)))/\Bl w w') u w':=by
 have hB:=Bl.refl w;have hdl:=dref_len (encT t);obtain⟨ds,hds⟩:∃ds,dref (encT t)=ds:=⟨_,rfl⟩;rw[hds]at hdl⊢;refine Dp func34 11 ?_;have hz0:=hB.size;refine Hn 2 (B8 z32) 49 ?_;intro w1 g2 hn3 hr4;have hgd:=hn3.hg;refine Hz 7 (n:Int) (0:Int) ?_;replace hB:=hB.go hn3.below;refine Hc 8 (R:=λu w'=>(∃a' m' c' vs',u= .slice a' m' c'/\PAt (λb=>K b∨(w1).heap.size<=b) w' a' m' c' vs' (entsR t))/\Bl (w1) w') ((PP (hl.go hB) hb hlen).mono (λe w'⟨u,e1,⟨a',m',c',vs',e2,e3⟩,e4⟩=>⟨u,e1,⟨a',m',c',vs',e2,by rw[hRel.ones]at e3;exact e3⟩,e4⟩)) ?_;rintro _ u1⟨⟨a1,m1,c1,vs1,rfl,hP1⟩,hb1⟩;have l1:=hP1.ll;replace hB:=hB.go hb1;refine Hc 0 (R:=RB7 u1 t) (hBy _ hB _ _ _ _ _ hP1 (by omega)) ?_;rintro _ u2⟨⟨a2,n2,c2,rfl,hs2,hm2⟩,hb2⟩;have l2:=hs2.len;refine Hc 0 (R:=λu w'=>u= .agg (B8 ds)/\Bl u2 w') ((LQ a2 n2 c2 (encT t) u2 hs2.ag (by omega)).mono (λe w' h=>⟨_,by rw[h.1,hds],rfl,h.2⟩)) ?_;rintro _ u3⟨rfl,hb3⟩;replace hr4:=((hr4.go hb1).go hb2).go hb3;refine Hy 0 (og f34 3 4) g2 (B8 ds) (λ_=>CH 49 _ _ _ _ _ _ rfl (by kernel_rfl) (by kernel_rfl) hr4 (GD hdl) (Ip hdl) (B8_one _)) ?_;intro uE hpE;replace hB:=(hB.go hb2).go hb3;replace hB:Bl w uE:=hpE.below hB (by omega) hB.size;have hrE:Rw g2 uE (B8 ds) 49:=hpE.row hr4;exact UX 3 (.agg (B8 ds)) (λ_=>Iq results34 _ g2 ds hdl (by kernel_rfl) hrE) ⟨_,rfl,rfl,hB⟩
end Go.Proofs.YtalhnnjpjaeakaaGreat
namespace Go.Proofs.YtalhnnjpjaeakaaGreat
open Tr
def kidR(k:Nat->Tr)(i:Nat):PR:=if(k i).isNo then r0 else referP (encT (k i))
theorem My{ρ:Operand->Value}{w:World}{x:Operand}{o:Oper}(ho:o.op= .buildSlice 90 1 #[(0,x)])(r:RV)(hl:r.d.length=32)(hx:ρ x= .agg r.cells.toArray):
 (execOp ρ o).run prog w= .ok (.value (.slice (some ⟨w.heap.size,0,none⟩) 1 1)) (w.alloc (.cells r.cells.toArray 62)):=by
 unfold execOp;rw[ho];simp only[Ck,B9,C6,hx,Bm,Mu w r hl,AH,Bp]
theorem Qf{w w':World}{v u r:Value}{ρ:Operand->Value}{o:Oper}(hr:∀ty,(Builtin.append_ #[90,90] ty #[v,u]).run prog w= .ok r w')(x y:Operand)(ho:o.op= .call {callee:= .builtin .append,args:=#[x,y],argTypes:=#[90,90]})(hx:ρ x=v)(hy:ρ y=u):(execOp ρ o).run prog w= .ok (.value r) w':=by
 unfold execOp;simp only[ho,resolve,invoke,builtin,Bm,Bp,AH,Ck,B9,C6,hx,hy,hr]
theorem UK(K:Nat->Prop)(w:World):RefAt K w rz r0:=⟨rfl,rfl,λx hx=>by rw[CY.1 hx|>.2];omega,rfl,⟨.inl ⟨rfl,rfl⟩,λ_=>⟨rfl,rfl⟩,rfl,λx hx=>by cases hx⟩,Ay _,λg off h=>by cases h⟩
theorem NK(k:Nat->Tr)(i:Nat):(List.range (i+1)).map (kidR k)=(List.range i).map (kidR k)++[kidR k i]:=by rw[CF,BA];rfl
theorem Xf{l:PList}{e:List Int×List Int}{j:Nat}(hj:l[j]?=some e):valP [] (l.take (j+1))=if e.1=[]then e.2 else valP [] (l.take j):=by
 unfold valP;rw[BQ,hj,List.foldl_append];rfl
theorem Xg{K:Nat->Prop}{w:World}{a:Option Addr}{n c:Nat}{vs:List (Value×Value)}{k:Nat->Tr}{x:List Int}{B:Nat}(hO:Tr.Ok B (br k x))(hl:PAt K w a n c vs (entsR (br k x)))(hb:n<=2600000000000)(hlen:∀(j:Nat) q y,(entsR (br k x))[j]?=some (q,y)->q.length<=1000000)(hxl:x.length<=256)(hBy:∀i,k i≠no->∀v,Bl w v->∀K' a' n' c' vs',PAt K' v a' n' c' vs' (entsR (k i))->n'<=2600000000000->Calls prog 50 #[.slice a' n' c'] v λe w'=>∃u,e= .returned u/\RB7 v (k i) u w'):
 Calls prog 74 #[.slice a n c] w λe w'=>∃u,e= .returned u/\RN7 w (br k x) u w':=by
 have hB:=Bl.refl w;have ll:=hl.ll;have h2n:=QW hO;have h0n:0<n:=by omega
 refine Dp func74 78<|Hn 2 nz.cells.toArray 92 ?_;intro wN gN hnN hrN;have hgN:=hnN.hg;have hszN:=hB.size;refine Hz 7 (n:Int) (1:Int) ?_;replace hB:=hB.go hnN.below;refine Hc 8 (R:=λu w'=>u= .int .i64 0/\Bl (wN) w') ((Iw (hl.go hB) hb h0n hlen).mono (λe w'⟨u,e1,e2,e3⟩=>⟨u,e1,by rw[e2,Mj hO];rfl,e3⟩)) ?_;rintro _ u1⟨rfl,hb3⟩;refine Hx 15 (og f74 6 0) (.agg (NV.cells ⟨3,none,0,0,none,0,0,rz,none,0,0⟩).toArray) (λ_=>Fs 92 _ [(0, .int .i64 3)] _ rfl (by kernel_rfl) (by kernel_rfl)) ?_;replace hrN:=hrN.go hb3;have hlN:=lt_of_get hrN;refine Hn 0 nz.cells.toArray 92 ?_;intro wB gB hnB hrB;have hgB:=hnB.hg;replace hB:=hB.go hb3;have hszB:=hB.size;refine Hy 0 (og f74 6 2) gB ((NV.cells ⟨3,none,0,0,none,0,0,rz,none,0,0⟩).toArray) (λ_=>CH 92 _ _ _ _ _ _ rfl (by kernel_rfl) (by kernel_rfl) hrB (by kernel_rfl) (by kernel_rfl) (by kernel_rfl)) ?_;intro w2 hp;replace hB:=hB.go hnB.below;replace hB:Bl w w2:=hp.below hB (by omega) hB.size;replace hrN:=hrN.go hnB.below;replace hrN:=(show Rw _ _ _ _ from(hp.other (by omega)).trans hrN);replace hrB:Rw gB w2 ((NV.cells ⟨3,none,0,0,none,0,0,rz,none,0,0⟩).toArray) 92:=hp.row hrB;have hltB:=lt_of_get hrB;refine Ho (X:=Nat×Option Addr×Nat×Nat) 9 (λz=>[(5, .int .i64 ((z.1:Nat):Int)),(2, .pointer (some ⟨gN,0,none⟩)),(4, .pointer (some ⟨gB,0,none⟩)),(0, .slice a n c)]) (λz v=>Bl w v/\Rw gN v nz.cells.toArray 92/\Rw gB v (NV.cells ⟨3,none,0,0,none,0,0,rz,z.2.1,z.2.2.1,z.2.2.2⟩).toArray 92/\SoR (gB+1) v (.slice z.2.1 z.2.2.1 z.2.2.2) ((List.range z.1).map (kidR k))/\z.1<=16) (λz=>16-z.1) (0,none,0,0) ⟨hB,hrN,hrB,SX _ _,Ay _⟩ ?_;clear hB hrN hrB;rintro⟨i,ka,kn,kc⟩ v⟨hB,hrN,hrB,hS,hi⟩ I1 hN1;simp only at hB hrN hrB hS hi;by_cases hlt:i<16
 ·skip
  have hvB:=lt_of_get hrB;have hV:=Bl.refl v;have hSv:=hS;have hB0:=hB;have hrN0:=hrN;have hrB0:=hrB;by_cases hki:k i=no
  ·skip
   refine Ht 4 ((i:Int)<(16:Int))<|Hc 11 (R:=λu w'=>(∃a' m' c' vs',u= .slice a' m' c'/\PAt (λb=>K b∨(v).heap.size<=b) w' a' m' c' vs' (entsR (k i)))/\Bl (v) w') ((Kc (hl.go hB) hb i hlt).mono (λe w'⟨u,e1,⟨a',m',c',vs',e2,e3⟩,e4⟩=>⟨u,e1,⟨a',m',c',vs',e2,by rw[G0 k x hlt]at e3;exact e3⟩,e4⟩)) ?_;rintro _ u3⟨⟨a8,m8,c8,vs8,rfl,hP8⟩,hb8⟩;have l8:=hP8.ll;have hle8:=Iu (i:Int) (entsR (br k x));rw[G0 k x hlt]at hle8;refine Hx 5 (og f74 11 0) (.agg rz.cells.toArray) (λ_=>Fs 62 _ [] _ rfl (by kernel_rfl) (by kernel_rfl)) ?_;replace hV:=hV.go hb8;have hszV:=hV.size;refine Hn 0 rz.cells.toArray 62 ?_;intro wR gR hnR hrR;have hgR:=hnR.hg;replace hB:=hB.go hb8;have hszR:=hB.size;refine Hy 0 (og f74 11 2) gR rz.cells.toArray (λ_=>CH 62 _ _ _ _ _ _ rfl (by kernel_rfl) (by kernel_rfl) hrR (by kernel_rfl) (by kernel_rfl) (by kernel_rfl)) ?_;intro w4 hp;replace hB:=hB.go hnR.below;replace hB:Bl w w4:=hp.below hB (by omega) hB.size;replace hrN:=(hrN.go hb8).go hnR.below;replace hrN:=(show Rw _ _ _ _ from(hp.other (by omega)).trans hrN);replace hrB:=(hrB.go hb8).go hnR.below;replace hrB:=(show Rw _ _ _ _ from(hp.other (by omega)).trans hrB);replace hV:=hV.go hnR.below;replace hV:Bl v w4:=hp.below hV (by omega) hV.size;replace hrR:Rw gR w4 rz.cells.toArray 62:=hp.row hrR;refine Hb 7 (decide ((m8:Int)>(0:Int))) false (AU (by rw[hki]at l8;simp[entsR]at l8;omega)) ?_;have hRV:RefAt (λb=>v.heap.size<=b) w4 rz (kidR k i):=(by unfold kidR;rw[Af (isNo_iff.2 hki)];exact UK _ _);refine Hl 7 hrB 37 90 (.slice ka kn kc)<|Hx 0 (og f74 14 2) (.agg rz.cells.toArray) (λ_=>Ep 62 _ _ _ _ _ _ rfl (by kernel_rfl) hrR underlying62 rfl (Da rfl))<|Hx 0 (og f74 14 3) (.slice (some ⟨w4.heap.size,0,none⟩) 1 1) (λ_=>My rfl rz rfl (by kernel_rfl)) ?_;obtain⟨vT,wT,hrT,hS2,hbT⟩:=Lh (base:=gB+1) (by omega) hSv hV hRV (by simp;omega) 0;refine Hx 0 (og f74 14 4) vT (λ_=>Qf (λty=>(show(Builtin.append_ #[90,90] ty #[.slice ka kn kc, .slice (some ⟨w4.heap.size,0,none⟩) 1 1]).run prog _= .ok vT wT from hrT)) _ _ rfl (by kernel_rfl) (by kernel_rfl)) ?_;obtain⟨ka2,kc2,e2,_⟩:=hS2.kids;subst e2;have hS:=hS2;have hwv:=hB0.size;replace hrN:Rw gN wT nz.cells.toArray 92:=(hbT.block gN (by omega)).trans hrN0;replace hrB:Rw gB wT (NV.cells ⟨3,none,0,0,none,0,0,rz,ka,kn,kc⟩).toArray 92:=(hbT.block gB (by omega)).trans hrB0;replace hB:Bl w wT:=⟨hbT.os.trans hB0.os,hbT.tape.trans hB0.tape,hbT.output.trans hB0.output,Al hB0.size hbT.size,λq hq=>(hbT.block q (by omega)).trans (hB0.block q hq)⟩;clear hV hrR;refine Ha 1 (og f74 14 6) gB 37 (.slice ka2 ((List.range i).map (kidR k)++[kidR k i]).length kc2) (λ_=>BO 90 _ _ gB 37 _ 92 _ hrB rfl (by kernel_rfl) (by kernel_rfl) (by show 37<38;omega) rfl rfl (by kernel_rfl)) ?_;intro w5 hst;replace hrB:Rw gB w5 (NV.cells ⟨3,none,0,0,none,0,0,rz,ka2,((List.range i).map (kidR k)++[kidR k i]).length,kc2⟩).toArray 92:=hrB.set hst (by kernel_rfl);replace hB:Bl w w5:=hst.touch.below hB (by omega) hB.size;refine Hi 5 ((i:Int)+1) ((i:Int)+1) ?_;replace hrN:=hrN.apart hst (by omega);replace hS:=hS.keep (λb hb hlt=>hst.touch.block b hlt (by omega));exact hN1 2 (i+1,ka2,((List.range i).map (kidR k)++[kidR k i]).length,kc2) ⟨hB,hrN,hrB,by show SoR _ _ _ ((List.range (i+1)).map _);rw[NK];exact hS,by show i+1<=16;omega⟩ (by show 16-(i+1)<16-i;omega) (λ_=>by kernel_rfl)
  ·skip
   have hOk:Tr.Ok (B-1) (k i):=(by rcases hO.1 i with e|e;exact absurd e hki;exact e.2.2);have hpos:=BC.2 (It _ hOk);refine Ht 4 ((i:Int)<(16:Int))<|Hc 11 (R:=λu w'=>(∃a' m' c' vs',u= .slice a' m' c'/\PAt (λb=>K b∨(v).heap.size<=b) w' a' m' c' vs' (entsR (k i)))/\Bl (v) w') ((Kc (hl.go hB) hb i hlt).mono (λe w'⟨u,e1,⟨a',m',c',vs',e2,e3⟩,e4⟩=>⟨u,e1,⟨a',m',c',vs',e2,by rw[G0 k x hlt]at e3;exact e3⟩,e4⟩)) ?_;rintro _ u6⟨⟨a8,m8,c8,vs8,rfl,hP8⟩,hb8⟩;have l8:=hP8.ll;have hle8:=Iu (i:Int) (entsR (br k x));rw[G0 k x hlt]at hle8;refine Hx 5 (og f74 11 0) (.agg rz.cells.toArray) (λ_=>Fs 62 _ [] _ rfl (by kernel_rfl) (by kernel_rfl)) ?_;replace hV:=hV.go hb8;have hszV:=hV.size;refine Hn 0 rz.cells.toArray 62 ?_;intro wR gR hnR hrR;have hgR:=hnR.hg;replace hB:=hB.go hb8;have hszR:=hB.size;refine Hy 0 (og f74 11 2) gR rz.cells.toArray (λ_=>CH 62 _ _ _ _ _ _ rfl (by kernel_rfl) (by kernel_rfl) hrR (by kernel_rfl) (by kernel_rfl) (by kernel_rfl)) ?_;intro w7 hp;replace hB:=hB.go hnR.below;replace hB:Bl w w7:=hp.below hB (by omega) hB.size;replace hrN:=(hrN.go hb8).go hnR.below;replace hrN:=(show Rw _ _ _ _ from(hp.other (by omega)).trans hrN);replace hrB:=(hrB.go hb8).go hnR.below;replace hrB:=(show Rw _ _ _ _ from(hp.other (by omega)).trans hrB);replace hV:=hV.go hnR.below;replace hV:Bl v w7:=hp.below hV (by omega) hV.size;replace hrR:Rw gR w7 rz.cells.toArray 62:=hp.row hrR;refine Ht 7 ((m8:Int)>(0:Int)) ?_;replace hP8:=(hP8.old.go hnR.below).tou hp.touch (λh=>by have:=h.2;omega);refine Hc 5 (R:=RB7 (w7) (k i)) (hBy i hki _ hB _ _ _ _ _ hP8 (by omega)) ?_;rintro _ u9⟨⟨a9,m9,c9,rfl,hs9,hm9⟩,hb9⟩;clear hP8;have l9:=hs9.len;refine Hc 0 (R:=λu w'=>(∃y:RV,u= .agg y.cells.toArray/\RefAt (Own u9.heap.size w') w' y (referP (encT (k i))))/\Bl u9 w') (SU hs9 (by omega)) ?_;rintro _ u10⟨⟨y,rfl,hRf⟩,hb10⟩;replace hV:=hV.go hb9;have hz9:=hV.size;replace hrR:=hrR.go hb9;have hlR:=lt_of_get hrR;have hyl:y.d.length=32:=(by rw[hRf.2.1];exact hRf.2.2.2.1);replace hrR:=hrR.go hb10;refine Hy 0 (og f74 13 3) gR y.cells.toArray (λ_=>CH 62 _ _ _ _ _ _ rfl (by kernel_rfl) (by kernel_rfl) hrR (Da hyl) (by rw[Bb,Bb,RV.len hyl];rfl) (Am (RV.one y))) ?_;intro w8 hp;replace hB:=(hB.go hb9).go hb10;replace hB:Bl w w8:=hp.below hB (by omega) hB.size;replace hrN:=(hrN.go hb9).go hb10;replace hrN:=(show Rw _ _ _ _ from(hp.other (by omega)).trans hrN);replace hrB:=(hrB.go hb9).go hb10;replace hrB:=(show Rw _ _ _ _ from(hp.other (by omega)).trans hrB);replace hV:=hV.go hb10;replace hV:Bl v w8:=hp.below hV (by omega) hV.size;replace hrR:Rw gR w8 y.cells.toArray 62:=hp.row hrR;have hRV:RefAt (λb=>v.heap.size<=b) w8 y (kidR k i):=(by unfold kidR;rw[Ad (λe=>hki (isNo_iff.1 e))];exact RefAt.go (λb hb _=>⟨hp.other (by have:=hb.1;omega),Al hz9 hb.1⟩) hRf);refine Hl 4 hrB 37 90 (.slice ka kn kc)<|Hx 0 (og f74 14 2) (.agg y.cells.toArray) (λ_=>Ep 62 _ _ _ _ _ _ rfl (by kernel_rfl) hrR underlying62 rfl (Da hyl))<|Hx 0 (og f74 14 3) (.slice (some ⟨w8.heap.size,0,none⟩) 1 1) (λ_=>My rfl y hyl (by kernel_rfl)) ?_;obtain⟨vT,wT,hrT,hS2,hbT⟩:=Lh (base:=gB+1) (by omega) hSv hV hRV (by simp;omega) 0;refine Hx 0 (og f74 14 4) vT (λ_=>Qf (λty=>(show(Builtin.append_ #[90,90] ty #[.slice ka kn kc, .slice (some ⟨w8.heap.size,0,none⟩) 1 1]).run prog _= .ok vT wT from hrT)) _ _ rfl (by kernel_rfl) (by kernel_rfl)) ?_;obtain⟨ka2,kc2,e2,_⟩:=hS2.kids;subst e2;have hS:=hS2;have hwv:=hB0.size;replace hrN:Rw gN wT nz.cells.toArray 92:=(hbT.block gN (by omega)).trans hrN0;replace hrB:Rw gB wT (NV.cells ⟨3,none,0,0,none,0,0,rz,ka,kn,kc⟩).toArray 92:=(hbT.block gB (by omega)).trans hrB0;replace hB:Bl w wT:=⟨hbT.os.trans hB0.os,hbT.tape.trans hB0.tape,hbT.output.trans hB0.output,Al hB0.size hbT.size,λq hq=>(hbT.block q (by omega)).trans (hB0.block q hq)⟩;clear hV hrR;refine Ha 1 (og f74 14 6) gB 37 (.slice ka2 ((List.range i).map (kidR k)++[kidR k i]).length kc2) (λ_=>BO 90 _ _ gB 37 _ 92 _ hrB rfl (by kernel_rfl) (by kernel_rfl) (by show 37<38;omega) rfl rfl (by kernel_rfl)) ?_;intro w9 hst;replace hrB:Rw gB w9 (NV.cells ⟨3,none,0,0,none,0,0,rz,ka2,((List.range i).map (kidR k)++[kidR k i]).length,kc2⟩).toArray 92:=hrB.set hst (by kernel_rfl);replace hB:Bl w w9:=hst.touch.below hB (by omega) hB.size;refine Hi 5 ((i:Int)+1) ((i:Int)+1) ?_;replace hrN:=hrN.apart hst (by omega);replace hS:=hS.keep (λb hb hlt=>hst.touch.block b hlt (by omega));exact hN1 2 (i+1,ka2,((List.range i).map (kidR k)++[kidR k i]).length,kc2) ⟨hB,hrN,hrB,by show SoR _ _ _ ((List.range (i+1)).map _);rw[NK];exact hS,by show i+1<=16;omega⟩ (by show 16-(i+1)<16-i;omega) (λ_=>by kernel_rfl)
 obtain rfl:i=16:=by omega
 refine Hf 4 (((16:Nat):Int)<(16:Int))<|Ho (X:=Nat×Option Addr×Nat×Nat) 15 (λz=>[(8, .int .i64 ((z.1:Nat):Int)),(2, .pointer (some ⟨gN,0,none⟩)),(4, .pointer (some ⟨gB,0,none⟩)),(0, .slice a n c)]) (λz v=>Bl w v/\Rw gN v nz.cells.toArray 92/\Rw gB v (NV.cells ⟨3,none,0,0,z.2.1,z.2.2.1,z.2.2.2,rz,ka,kn,kc⟩).toArray 92/\SoR (gB+1) v (.slice ka kn kc) ((List.range 16).map (kidR k))/\Sk (λ_=>True) w z.2.1 z.2.2.1 z.2.2.2 (valP [] ((entsR (br k x)).take z.1))/\z.1<=n) (λz=>n-z.1) (0,none,0,0) ⟨hB,hrN,hrB,hS,Sk.nil _ _,Ay _⟩ ?_;clear hB hrN hrB hS;rintro⟨j,va,vn,vc⟩ v⟨hB,hrN,hrB,hS,hsV,hj⟩ I2 hN2;simp only at hB hrN hrB hS hsV hj;by_cases hlt:j<n
 ·skip
  obtain⟨gE,oE,a1,n1,c1,a2,n2,c2,q,z,ea,hej,hc1,hc2,hs1,hs2⟩:=hl.at hlt;subst ea;have lq:=hs1.len;have hvs:=Xf hej;by_cases hq:q=[]
  ·skip
   rw[Af hq]at hvs;refine Ht 6 ((j:Int)<(n:Int))<|Hx 11 (og f74 18 2) (.pointer (some ⟨gE,oE+j*2,none⟩)) (λ_=>AV 103 _ _ gE oE j n c 2 133 rfl (by kernel_rfl) (by kernel_rfl) hlt underlying103 (by kernel_rfl))<|Hx 1 (og f74 18 4) (.slice a1 n1 c1) (λ_=>AF 27 _ _ _ _ rfl (by kernel_rfl) ((BV hB (Aj hc1)).trans hc1) underlying27 rfl)<|Hb 1 ((n1:Int)==(0:Int)) true (C9.2 (by rw[hq]at lq;simp at lq;omega))<|Hx 6 (og f74 19 2) (.pointer (some ⟨gE,oE+j*2,none⟩)) (λ_=>AV 103 _ _ gE oE j n c 2 133 rfl (by kernel_rfl) (by kernel_rfl) hlt underlying103 (by kernel_rfl))<|Hx 1 (og f74 19 4) (.slice a2 n2 c2) (λ_=>AF 27 _ _ _ _ rfl (by kernel_rfl) ((BV hB (Aj hc2)).trans hc2) underlying27 rfl)<|Ha 1 (og f74 19 6) gB 2 (.slice a2 n2 c2) (λ_=>BO 27 _ _ gB 2 _ 92 _ hrB rfl (by kernel_rfl) (by kernel_rfl) (by show 2<38;omega) rfl rfl (by kernel_rfl)) ?_;intro w10 hst;replace hrB:Rw gB w10 (NV.cells ⟨3,none,0,0,a2,n2,c2,rz,ka,kn,kc⟩).toArray 92:=hrB.set hst (by kernel_rfl);replace hB:Bl w w10:=hst.touch.below hB (by omega) hB.size;refine Hi 5 ((j:Int)+1) ((j:Int)+1) ?_;replace hrN:=hrN.apart hst (by omega);replace hS:=hS.keep (λb hb hlt=>hst.touch.block b hlt (by omega));exact hN2 2 (j+1,a2,n2,c2) ⟨hB,hrN,hrB,hS,by show Sk _ _ _ _ _ (valP [] (List.take (j+1) _));rw[hvs];exact hs2.mono (λ_ _=>trivial),by show j+1<=n;omega⟩ (by show n-(j+1)<n-j;omega) (λ_=>by kernel_rfl)
  ·skip
   have hq1:=BC.2 hq;rw[Ad hq]at hvs;refine Ht 6 ((j:Int)<(n:Int))<|Hx 11 (og f74 18 2) (.pointer (some ⟨gE,oE+j*2,none⟩)) (λ_=>AV 103 _ _ gE oE j n c 2 133 rfl (by kernel_rfl) (by kernel_rfl) hlt underlying103 (by kernel_rfl))<|Hx 1 (og f74 18 4) (.slice a1 n1 c1) (λ_=>AF 27 _ _ _ _ rfl (by kernel_rfl) ((BV hB (Aj hc1)).trans hc1) underlying27 rfl)<|Hz 1 (n1:Int) (0:Int)<|Hi 8 ((j:Int)+1) ((j:Int)+1) ?_;exact hN2 2 (j+1,va,vn,vc) ⟨hB,hrN,hrB,hS,by show Sk _ _ _ _ _ (valP [] (List.take (j+1) _));rw[hvs];exact hsV,by show j+1<=n;omega⟩ (by show n-(j+1)<n-j;omega) (λ_=>by kernel_rfl)
 obtain rfl:j=n:=by omega
 rw[A5 (by omega),Xab]at hsV;refine Hf 6 ((j:Int)<(j:Int))<|Hx 10 (og f74 20 0) (.agg (NV.cells ⟨3,none,0,0,va,vn,vc,rz,ka,kn,kc⟩).toArray) (λ_=>Ep 92 _ _ _ _ _ _ rfl (by kernel_rfl) hrB underlying92 rfl (by kernel_rfl))<|Hy 0 (og f74 20 1) gN ((NV.cells ⟨3,none,0,0,va,vn,vc,rz,ka,kn,kc⟩).toArray) (λ_=>CH 92 _ _ _ _ _ _ rfl (by kernel_rfl) (by kernel_rfl) hrN (by kernel_rfl) (by kernel_rfl) (by kernel_rfl)) ?_;intro w11 hp;replace hB:Bl w w11:=hp.below hB (by omega) hB.size;replace hrN:Rw gN w11 ((NV.cells ⟨3,none,0,0,va,vn,vc,rz,ka,kn,kc⟩).toArray) 92:=hp.row hrN;replace hrB:=(show Rw _ _ _ _ from(hp.other (by omega)).trans hrB);replace hS:=hS.keep (λb hb _=>hp.other (by omega));obtain⟨ka3,kc3,e3,h31,h32,h33,h34⟩:=hS.kids;injection e3 with e31 e32 e33;subst e31;subst e33;have lx:=hsV.len;exact UX 3 (.agg (NV.cells ⟨3,none,0,0,va,vn,vc,rz,ka,kn,kc⟩).toArray) (λ_=>FE results74 _ gN ⟨3,none,0,0,va,vn,vc,rz,ka,kn,kc⟩ rfl (by kernel_rfl) hrN) ⟨_,rfl,⟨_,rfl,⟨rfl,Lg _,(hsV.go hB).agk (by omega),Hg _,⟨e32,(by rw[e32];exact h31),h32,(by rw[e32];simp),λh=>⟨e32.trans (h33 h).1,(h33 h).2⟩⟩,KidsAt.go (λb hb _=>⟨rfl,trivial⟩) h34⟩⟩,hB⟩
end Go.Proofs.YtalhnnjpjaeakaaGreat
namespace Go.Proofs.YtalhnnjpjaeakaaGreat
open Tr
open Di (dref)
theorem NL:∀(t:Tr)(B:Nat),Tr.Ok B t->B<=64->(∀q y,(q,y)∈entsR t->q.length<=1000/\y.length<=256)->∀(K:Nat->Prop)(w:World)(a:Option Addr)(n c:Nat)(vs:List (Value×Value)),PAt K w a n c vs (entsR t)->n<=2600000000000->
 Calls prog 50 #[.slice a n c] w λe w'=>∃u,e= .returned u/\RB7 w t u w':=by
 intro t
 induction t with
 |no=>intro B hO;exact hO.elim
 |leaf p x=>
  intro B hO hB hv K w a n c vs hl hb;have hn:n=1:=hl.ll.symm;subst hn;obtain⟨h1,h2⟩:=hv p x (by simp[entsR]);exact Ki (by simp) (Rg hl h1 h2)
 |ext p t ih=>
  intro B hO hB hv K w a n c vs hl hb;refine Ki (by simp) (Uz hO hB hl hb (λj k x h=>by have:=(hv k x (AK h)).1;omega) ?_);intro v _ K' a' n' c' vs' hP hn;refine ih (B-p.length) hO.2.2.2.2 (by omega) (λq y hq=>?_) K' v a' n' c' vs' hP hn;have:=hv (p++q) y (by simp only[entsR,BE];exact⟨(q,y),hq,rfl⟩);rw[Ab]at this;omega
 |br k x ih=>
  intro B hO hB hv K w a n c vs hl hb;have hx:x.length<=256:=by
   by_cases h:x=[]
   ·rw[h];simp
   ·exact(hv [] x (by simp only[entsR];rw[Ad h];simp)).2
  refine Ki (by simp) (Xg hO hl hb (λj q y h=>by have:=(hv q y (AK h)).1;omega) hx ?_);intro i hi v _ K' a' n' c' vs' hP hn;rcases hO.1 i with e|⟨e1,e2,e3⟩
  ·exact absurd e hi
  ·refine ih i (B-1) e3 (by omega) (λq y hq=>?_) K' v a' n' c' vs' hP hn
   have:=hv ((i:Int)::q) y (by
    simp only[entsR,AM,Cd,DT,BE];exact .inr ⟨i,e1,(q,y),hq,rfl⟩)
   rw[AS]at this;omega
theorem Rel.small{t:Tr}{l:PList}(h:Rel t l):∀q y,(q,y)∈entsR t->q.length<=1000/\y.length<=256:=by
 intro q y hm;rw[<-h.ones]at hm;obtain⟨⟨k,x⟩,hk,he⟩:=BE.1 hm;cases he;have h1:=((h.m k x).1 hk).2.1;exact⟨by rw[Ni.nib_len];show 2*k.length<=1000;omega,h.v k x hk⟩
theorem Kj{K:Nat->Prop}{w:World}{a:Option Addr}{n c:Nat}{vs:List (Value×Value)}{t:Tr}{l:PList}(hRel:Rel t l)(hl:PAt K w a n c vs l)(hb:n<=2600000000000):
 Calls prog 34 #[.slice a n c] w λe w'=>∃u,e= .returned u/\u= .agg (B8 (rootP t))/\Bl w w':=by
 have ll:=hl.ll;have le:(entsR t).length=n:=by rw[<-hRel.ones];unfold onesP;rw[AY];exact ll
 rcases hRel.ok with rfl|hO
 ·have hn:n=0:=le.symm;subst hn;exact Xe
 ·have hne:=hO.ne;have h0:=BC.2 (It _ hO);rw[show rootP t=dref (encT t)from by unfold rootP;rw[Ad (λe=>hne (isNo_iff.1 e))]];exact UJ hRel hl hb (by omega) (λj k x h=>by have:=((hRel.m k x).1 (AK h)).2.1;omega) (by omega) (λv _ K' a' n' c' vs' hP hn=>NL t 64 hO (Aa _) hRel.small K' v a' n' c' vs' hP hn)
end Go.Proofs.YtalhnnjpjaeakaaGreat
namespace Go.Proofs.YtalhnnjpjaeakaaGreat
variable {K : Nat → Prop} {w v' : World} {p p' : Value × List Int} {gb n m m2 q i : Nat} {ps qs : List (Value × List Int)} {M : List (List Int)} {a b : List Int} {cur : Array Value}
def Gd(K:Nat->Prop)(w:World)(p:Value×List Int):Prop:=∃a n c,p.1= .slice a n c/\Sk K w a n c p.2
theorem Gd.tou{w':World}{g:Nat}(h:Gd K w p)(t:Touch g w w')(hg:¬K g):Gd K w' p:=by
 obtain⟨a,n,c,h1,h2⟩:=h;exact⟨a,n,c,h1,h2.tou t hg⟩
theorem Touch.setCells(g:Nat):∀(vs:List Value)(w:World)(o:Nat),Touch g w (w.setCells g o vs)
 |[],w,o=>Touch.refl g w
 |v::r,w,o=>(Touch.setCell g w o v).trans (Touch.setCells g r _ _)
theorem NM{w:World}{ρ:Operand->Value}{o:Oper}(x y:Operand)(g off k l c l2 c2:Nat)(ho:o.op= .slice 41 x (some y) none none)(hx:ρ x= .slice (some ⟨g,off,none⟩) l c)(hy:ρ y= .int .i64 (k:Int))(hl:l=k+l2)(hc:c=k+c2)(h0:0<c2):(execOp ρ o).run prog w= .ok (.value (.slice (some ⟨g,off+k*1,none⟩) l2 c2)) w:=by
 subst hl hc;unfold execOp;rw[ho];have h2:k+l2-k=l2:=by omega
 have h3:k+c2-k=c2:=by omega
 simp[hx,hy,Instr.sliceAt,B7 underlying41,Instr.slice,Instr.sliceBounds,Instr.sliceBound,asIntOf,h2,h3,Result.andThen,BM];omega
theorem YR{w:World}{ρ:Operand->Value}{o:Oper}(x y:Operand)(g off k l c:Nat)(ho:o.op= .slice 41 x none (some y) none)(hx:ρ x= .slice (some ⟨g,off,none⟩) l c)(hy:ρ y= .int .i64 (k:Int))(hk:k<=c)(h0:0<c):(execOp ρ o).run prog w= .ok (.value (.slice (some ⟨g,off,none⟩) k c)) w:=by
 unfold execOp;rw[ho];have h1:¬(c=0):=by omega
 simp[hx,hy,Instr.sliceAt,B7 underlying41,Instr.slice,Instr.sliceBounds,Instr.sliceBound,asIntOf,h1,hk,Result.andThen,BM]
theorem Xh{w:World}{ρ:Operand->Value}{o:Oper}(x:Operand)(g off l c:Nat)(cur:Array Value)(ho:o.op= .call {callee:= .builtin .clear,args:=#[x],argTypes:=#[41]})(hx:ρ x= .slice (some ⟨g,off,none⟩) l c)(hr:Rw g w cur 27)(hl:0<l)(hs:off+l<=cur.size):(execOp ρ o).run prog w= .ok (.value (.tuple #[])) (w.setCells g off (List.replicate l (.slice none 0 0))):=by
 have hrun:=λty=>Lib.run_clear_slice (P:=prog) w 41 27 ty (.slice none 0 0) underlying41 zeroValue27 rfl rfl g off l c hl (λj hj=>by rw[Ae _ _ _ _ _ _ hr];simp;omega) (λj hj=>AL _ _ _ _ _ hr);unfold execOp;simp only[ho,resolve,invoke,builtin,Bm,Bp,AH,Ck,B9,C6,hx,hrun]
structure CI(K:Nat->Prop)(w:World)(gb n cap m:Nat)(ps:List (Value×List Int))(m2 q:Nat)(cu:Array Value)(qs:List (Value×List Int))(v:World):Prop where
 r:Rw gb v cu 27
 t:Touch gb w v
 le:m+1+(m2+1)<=n
 sz:cu.size=cap
 ql:qs.length=q
 qm:q<=m+m2+1
 ddq:qs.map Prod.snd=dd ((ps.map Prod.snd).take (m+1+(m2+1)))
 gd:∀p∈qs,Gd K w p
 tk:cu.toList.take q=qs.map Prod.fst
 rest:∀j,m+m2+1<=j->j<n->cu[j]?=(ps[j]?).map Prod.fst
theorem CI.go{cap:Nat}{cu:Array Value}{v:World}(h:CI K w gb n cap m ps m2 q cu qs v)(hb:Below v.heap.size v v'):CI K w gb n cap m ps m2 q cu qs v':=
 ⟨h.r.go hb,h.t.trans (Touch.of_below hb),h.le,h.sz,h.ql,h.qm,h.ddq,h.gd,h.tk,h.rest⟩
theorem CI.drew{cap:Nat}{cu:Array Value}{v:World}(h:CI K w gb n cap m ps m2 q cu qs v):CI K w gb n cap m ps m2 q cu qs v.drew:=h.go (Ak _ _).drew
theorem Xi(ha:M[i]?=some a)(hb:M[i+1]?=some b):M.take (i+2)=M.take i++[a,b]/\M.take (i+1)=M.take i++[a]:=by
 have e1:M.take (i+1)=M.take i++[a]:=by rw[BQ,ha];rfl
 have e2:M.take (i+2)=M.take (i+1)++[b]:=by rw[BQ,hb];rfl
 exact⟨by rw[e2,e1];simp,e1⟩
theorem Li(ha:M[i]?=some a)(hb:M[i+1]?=some b):dd (M.take (i+2))=dd (M.take (i+1))++(if b=a then[]else[b]):=by
 obtain⟨h1,h2⟩:=Xi ha hb;rw[h1,h2];exact Y1 _ _ _
theorem CI.start{v:World}{cap:Nat}(hr:Rw gb v cur 27)(ht:Touch gb w v)(hcur:cur.toList.take n=ps.map Prod.fst)(hsz:cur.size=cap)(hn:ps.length=n)(hg:∀p∈ps,Gd K w p)(hm:m+1<n)(hd:dd ((ps.map Prod.snd).take (m+1))=(ps.map Prod.snd).take (m+1))(h1:ps[m]?=some p)(h2:ps[m+1]?=some p')(he:p'.2=p.2):CI K w gb n cap m ps 0 (m+1) cur (ps.take (m+1)) v:=by
 have hM1:(ps.map Prod.snd)[m]?=some p.2:=by rw[Bx,h1];rfl
 have hM2:(ps.map Prod.snd)[m+1]?=some p'.2:=by rw[Bx,h2];rfl
 refine⟨hr,ht,by omega,hsz,by simp;omega,by omega,?_,λp hp=>hg p (Bi hp),?_,λj _ hj=>?_⟩
 ·rw[show m+1+(0+1)=m+2 from rfl,Li hM1 hM2,Af he,A3,hd,List.map_take]
 ·have:=Av (List.take (m+1)) hcur;rw[Es,CN (by omega)]at this;rw[this,List.map_take]
 ·rw[<-Bx,<-hcur,AP hj,BS]
theorem CI.keep{cap:Nat}{cu:Array Value}{v:World}(h:CI K w gb n cap m ps m2 q cu qs v)(h1:ps[m+m2+1]?=some p)(h2:ps[m+m2+1+1]?=some p')(hn:m+1+(m2+1)<n)(he:p'.2=p.2):CI K w gb n cap m ps (m2+1) q cu qs v:=by
 have hM1:(ps.map Prod.snd)[m+m2+1]?=some p.2:=by rw[Bx,h1];rfl
 have hM2:(ps.map Prod.snd)[m+m2+1+1]?=some p'.2:=by rw[Bx,h2];rfl
 have hq:=h.qm;refine⟨h.r,h.t,by omega,h.sz,h.ql,by omega,?_,h.gd,h.tk,λj hj hj2=>h.rest j (by omega) hj2⟩;rw[show m+1+(m2+1+1)=m+m2+1+2 from by omega,Li hM1 hM2,Af he,A3,h.ddq,show m+1+(m2+1)=m+m2+1+1 from by omega]
theorem CI.move{cap:Nat}{cu:Array Value}{v:World}(h:CI K w gb n cap m ps m2 q cu qs v)(h1:ps[m+m2+1]?=some p)(h2:ps[m+m2+1+1]?=some p')(hn:m+1+(m2+1)<n)(hc:n<=cap)(he:¬p'.2=p.2)(hg:Gd K w p')(hs:Set1 v v' gb q p'.1)(h11:p'.1.oneCell'=true):CI K w gb n cap m ps (m2+1) (q+1) (cu.setIfInBounds q p'.1) (qs++[p']) v':=by
 have hM1:(ps.map Prod.snd)[m+m2+1]?=some p.2:=by rw[Bx,h1];rfl
 have hM2:(ps.map Prod.snd)[m+m2+1+1]?=some p'.2:=by rw[Bx,h2];rfl
 have hq:=h.qm;have hsz:=h.sz;refine⟨h.r.set hs rfl,h.t.trans hs.touch,by omega,by simp[h.sz],by simp[h.ql],by omega,?_,?_,?_,λj hj hj2=>?_⟩
 ·rw[show m+1+(m2+1+1)=m+m2+1+2 from by omega,Li hM1 hM2,Ad he,show m+m2+1+1=m+1+(m2+1)from by omega,<-h.ddq,BA];rfl
 ·intro x hx;rcases AM.1 hx with hx|hx
  ·exact h.gd x hx
  ·rw[DA.1 hx];exact hg
 ·rw[Eu,BQ,BA,<-h.tk];have:(cu.toList.set q p'.1)[q]?=some p'.1:=by rw[List.getElem?_set_self (by simp;omega)]
  rw[this,List.take_set_of_le (Aa _)];rfl
 ·rw[Array.getElem?_setIfInBounds_ne (by omega)];exact h.rest j (by omega) hj2
theorem CI.done{cap:Nat}{cu:Array Value}{v:World}(h:CI K w gb n cap m ps m2 q cu qs v)(hn:ps.length=n)(hm:m+1+(m2+1)=n)(hK:¬K gb)(vs:List Value):Bt K (v.setCells gb (0+q*1) vs) (some ⟨gb,0,none⟩) q (dd (ps.map Prod.snd))/\Touch gb w (v.setCells gb (0+q*1) vs):=by
 have ht:=h.t.trans (Touch.setCells gb vs v (0+q*1));have hd:qs.map Prod.snd=dd (ps.map Prod.snd):=by rw[h.ddq,hm,A5 (by simp;omega)]
 refine⟨⟨by rw[<-hd,AY,h.ql],λj hj=>?_⟩,ht⟩;have hjq:j<qs.length:=by rw[h.ql];exact hj
 obtain⟨a,n',c,h1,h2⟩:=h.gd qs[j] (Bo hjq);refine⟨gb,0,a,n',c,rfl,?_,?_⟩
 ·rw[World.cell?_setCells_out gb vs (0+q*1) v _ (λ_ _=> .inl (by show 0+j*1<0+q*1;omega)),Ae _ _ _ _ _ _ h.r,<-h1];have:=Av (λl=>l[j]?) h.tk;simp only[AP hj,Bx,Ac hjq,BN,BS]at this;rw[show 0+j*1=j from by omega];exact this
 ·rw[<-hd];have e:(qs.map Prod.snd).getD j []=qs[j].2:=by simp[List.getD,hjq]
  rw[e];exact h2.tou ht hK
theorem Mz(hcur:cur.toList.take n=ps.map Prod.fst)(hn:ps.length=n)(hg:∀p∈ps,Gd K w p){j:Nat}(hj:j<n):∃a m c x,ps[j]?=some (.slice a m c,x)/\cur[j]?=some (.slice a m c)/\Sk K w a m c x:=by
 have hjp:j<ps.length:=by omega
 obtain⟨a,m,c,h1,h2⟩:=hg ps[j] (Bo hjp);refine⟨a,m,c,ps[j].2,?_,?_,h2⟩
 ·rw[Ac hjp,<-h1]
 ·have:=Av (λl=>l[j]?) hcur;simp only[AP hj,Bx,Ac hjp,BN,BS]at this;rw[this,h1]
theorem Xaj(M:List (List Int))(h:0<M.length):dd (M.take (0+1))=M.take (0+1):=by
 cases M with
 |nil=>rfl
 |cons x M=>simp[dd,ddg]
theorem Xj(M:List (List Int))(h:M.length<2):dd M=M:=by
 match M,h with
 |[],_=>rfl
 |[x],_=>rfl
theorem XaC(h1:ps[m]?=some p)(h2:ps[m+1]?=some p')(hd:dd ((ps.map Prod.snd).take (m+1))=(ps.map Prod.snd).take (m+1))(he:¬p'.2=p.2):dd ((ps.map Prod.snd).take (m+1+1))=(ps.map Prod.snd).take (m+1+1):=by
 have hM1:(ps.map Prod.snd)[m]?=some p.2:=by rw[Bx,h1];rfl
 have hM2:(ps.map Prod.snd)[m+1]?=some p'.2:=by rw[Bx,h2];rfl
 rw[Li hM1 hM2,Ad he,hd,BQ (i:=m+1),hM2];rfl
theorem Qg(hr:Rw gb w cur 27)(hcur:cur.toList.take n=ps.map Prod.fst)(hn:ps.length=n)(hg:∀p∈ps,Gd K w p)(hd:dd (ps.map Prod.snd)=ps.map Prod.snd):Bt K w (some ⟨gb,0,none⟩) n (dd (ps.map Prod.snd)):=by
 rw[hd];refine⟨by simp[hn],λj hj=>?_⟩;obtain⟨a,m,c,x,h1,h2,h3⟩:=Mz hcur hn hg hj;refine⟨gb,0,a,m,c,rfl,?_,?_⟩
 ·rw[Ae _ _ _ _ _ _ hr,show 0+j*1=j from by omega];exact h2
 ·rw[List.getD,Bx,h1];exact h3
theorem MO{cap:Nat}(hr:Rw gb w cur 27)(hcur:cur.toList.take n=ps.map Prod.fst)(hsz:cur.size=cap)(hn:ps.length=n)(hle:n<=cap)(hg:∀p∈ps,Gd K w p)(hK:¬K gb)(hb:n<=7600000000002)(h2:n<2):
 Calls prog 43 #[.slice (some ⟨gb,0,none⟩) n cap, .func (.func 44) #[] #[]] w λe w'=>∃u,e= .returned u/\(λu w'=>∃k,u= .slice (some ⟨gb,0,none⟩) k cap/\Bt K w' (some ⟨gb,0,none⟩) k (dd (ps.map Prod.snd))/\Touch gb w w') u w':=by
 have hB:=Bl.refl w;refine Dp func43 66<|Ht 10 ((n:Int)<(2:Int)) ?_;exact Hr 11 (.slice (some ⟨gb,0,none⟩) n cap) ⟨_,rfl,n,rfl,Qg hr hcur hn hg (Xj _ (by simp;omega)),Touch.refl _ _⟩
theorem Qh{cap:Nat}(hr:Rw gb w cur 27)(hcur:cur.toList.take n=ps.map Prod.fst)(hsz:cur.size=cap)(hn:ps.length=n)(hle:n<=cap)(hg:∀p∈ps,Gd K w p)(hK:¬K gb)(hb:n<=7600000000002)(h2:¬n<2):
 Calls prog 43 #[.slice (some ⟨gb,0,none⟩) n cap, .func (.func 44) #[] #[]] w λe w'=>∃u,e= .returned u/\(λu w'=>∃k,u= .slice (some ⟨gb,0,none⟩) k cap/\Bt K w' (some ⟨gb,0,none⟩) k (dd (ps.map Prod.snd))/\Touch gb w w') u w':=by
 have hB:=Bl.refl w;refine EP func43 rfl 66 rfl ?_;show CW _ _ _ _ _ _ _ [(0, .slice (some ⟨gb,0,none⟩) n cap),(1, .func (.func 44) #[] #[])] _;refine BG<|Bn<|rp 4 (.slice none 0 0)<|BZ<|Bv<|BG<|BG<|Bn<|rp 8 (.slice (some ⟨gb,0,none⟩) n cap)<|rp 9 (.int .i64 n)<|rv 10 (.bool false) (λ_=>CP (v:= .bool (decide ((n:Int)<(2:Int)))) (by kernel_rfl) (Av Value.bool (AU (by omega))))<|BZ ?_;refine Bv<|EI (λ_=>by kernel_rfl)<|Fu<|Bv<|BG<|BG<|Bn<|rp 5 (.int .i64 1)<|BZ<|Bv<|FI<|RH (X:=Nat) (λm=>[(5, .int .i64 ((m+1:Nat):Int)),(0, .slice (some ⟨gb,0,none⟩) n cap),(1, .func (.func 44) #[] #[])]) (λm v=>Bl w v/\m+1<=n/\dd ((ps.map Prod.snd).take (m+1))=(ps.map Prod.snd).take (m+1)) (λm=>n-m) 0 (by exact⟨λ_=>by kernel_rfl,⟨λ_=>by kernel_rfl,⟨λ_=>by kernel_rfl,trivial⟩⟩⟩) ⟨hB,by omega,Xaj _ (by simp;omega)⟩ ?_;clear hB;rintro m v⟨hB,hm,hd⟩;by_cases hlt:m+1<n
 ·skip
  obtain⟨a1,n1,c1,x1,hp1,hc1,hs1⟩:=Mz hcur hn hg (show m<n from by omega);obtain⟨a2,n2,c2,x2,hp2,hc2,hs2⟩:=Mz hcur hn hg hlt;have hS:Two K K v ⟨gb,0+(m+1)*1,none⟩ ⟨gb,0+m*1,none⟩ a2 a1 n2 c2 n1 c1 x2 x1:=⟨by rw[Ae _ _ _ _ _ _ (hr.go hB),show 0+(m+1)*1=m+1 from by omega];exact hc2,hs2.go hB,by rw[Ae _ _ _ _ _ _ (hr.go hB),show 0+m*1=m from by omega];exact hc1,hs1.go hB⟩;refine BG<|BG<|Bn<|rp 12 (.int .i64 ((m+1:Nat):Int))<|rp 13 (.slice (some ⟨gb,0,none⟩) n cap)<|rp 14 (.int .i64 n)<|rv 15 (.bool true) (λ_=>CP (v:= .bool (decide (((m+1:Nat):Int)<(n:Int)))) (by kernel_rfl) (Av Value.bool (AT (by omega))))<|BZ<|Bv<|FA (λ_=>by kernel_rfl)<|Fu<|Bv ?_;refine BG<|FI<|BG<|RJ (λv=>Two K K v ⟨gb,0+(m+1)*1,none⟩ ⟨gb,0+m*1,none⟩ a2 a1 n2 c2 n1 c1 x2 x1) (by kernel_rfl) (hS.drew) ?_;replace hB:=hB.drew;replace hS:=hS.drew;refine dt 0 18 (.func (.func 44) #[] #[]) (λv hv _=>by kernel_rfl) hS<|dt 1 19 (.slice (some ⟨gb,0,none⟩) n cap) (λv hv _=>by kernel_rfl) hS<|dt 2 20 (.int .i64 ((m+1:Nat):Int)) (λv hv _=>by kernel_rfl) hS<|dt 3 21 (.pointer (some ⟨gb,0+(m+1)*1,none⟩)) (λv hv _=>AV 41 _ _ gb 0 (m+1) n cap 1 27 rfl (by kernel_rfl) (by kernel_rfl) (by omega) underlying41 (by kernel_rfl)) hS<|dt 4 22 (.slice a2 n2 c2) (λv hv _=>AF 27 _ _ _ _ rfl (by kernel_rfl) hv.cc underlying27 rfl) hS<|dt 5 23 (.slice (some ⟨gb,0,none⟩) n cap) (λv hv _=>by kernel_rfl) hS<|dt 6 24 (.int .i64 ((m+1:Nat):Int)) (λv hv _=>by kernel_rfl) hS<|dt 7 25 (.int .i64 (m:Int)) (λv hv _=>CP (v:= .int .i64 (IntKind.i64.wrap (((m+1:Nat):Int)-1))) (by kernel_rfl) (Av (Value.int .i64) (by rw[Ee (by omega) (by omega)];omega))) hS<|dt 8 26 (.pointer (some ⟨gb,0+m*1,none⟩)) (λv hv _=>AV 41 _ _ gb 0 m n cap 1 27 rfl (by kernel_rfl) (by kernel_rfl) (by omega) underlying41 (by kernel_rfl)) hS<|dt 9 27 (.slice a1 n1 c1) (λv hv _=>AF 27 _ _ _ _ rfl (by kernel_rfl) hv.cc' underlying27 rfl) hS<|OR [10] (by kernel_rfl) (by simp) ?_;refine RM 10 28 44 #[.slice a2 n2 c2, .slice a1 n1 c1] rfl (λ_=>by kernel_rfl) (λ_=>by kernel_rfl) (R:=λu w'=>u= .bool (decide (x2=x1))/\Bl (v.drew) w') (Gm hS.sk hS.sk') (λu w' h=>hS.go h.2) ?_ Va;rintro _ u1⟨rfl,hb2⟩;replace hB:=hB.go hb2;replace hS:=hS.go hb2;refine RK (by kernel_rfl)<|Bv ?_;by_cases hpq:x2=x1
  ·skip
   rw[show(decide (x2=x1))=true from by simp[hpq]];refine FA (λ_=>by kernel_rfl)<|BG ?_;obtain⟨l2,hl2⟩:∃l2,n=m+1+l2:=⟨n-(m+1),by omega⟩;obtain⟨e2,he2⟩:∃e2,cap=m+1+e2:=⟨cap-(m+1),by omega⟩;have hC:=CI.start (hr.go hB) (Touch.of_below hB) hcur hsz hn hg hlt hd hp1 hp2 hpq;clear hS;refine Bn<|rp 29 (.slice (some ⟨gb,0,none⟩) n cap)<|rp 30 (.int .i64 ((m+1:Nat):Int))<|rv 31 (.slice (some ⟨gb,0+(m+1)*1,none⟩) l2 e2) (λ_=>NM _ _ gb 0 (m+1) n cap l2 e2 rfl (by kernel_rfl) (by kernel_rfl) hl2 he2 (by omega))<|rp 6 (.slice (some ⟨gb,0+(m+1)*1,none⟩) l2 e2)<|BZ<|Bv<|BG<|BG<|Bn<|rp 7 (.int .i64 1)<|BZ ?_;refine Bv<|FI<|RH (X:=Nat×Nat×Array Value×List (Value×List Int)) (λz=>[(7, .int .i64 ((z.1+1:Nat):Int)),(5, .int .i64 ((z.2.1:Nat):Int)),(6, .slice (some ⟨gb,0+(m+1)*1,none⟩) l2 e2),(0, .slice (some ⟨gb,0,none⟩) n cap),(1, .func (.func 44) #[] #[])]) (λz v=>CI K w gb n cap m ps z.1 z.2.1 z.2.2.1 z.2.2.2 v) (λz=>n-z.1) (0,m+1,cur,ps.take (m+1)) (by exact⟨λ_=>by kernel_rfl,⟨λ_=>by kernel_rfl,⟨λ_=>by kernel_rfl,⟨λ_=>by kernel_rfl,⟨λ_=>by kernel_rfl,trivial⟩⟩⟩⟩⟩) hC ?_;clear hC hB hpq hs1 hs2 hp1 hp2 hc1 hc2;rintro⟨m2,q,cu,qs⟩ v hC;simp only at hC;show CW _ _ _ _ _ _ _ [(7, .int .i64 ((m2+1:Nat):Int)),(5, .int .i64 (q:Int)),(6, .slice (some ⟨gb,0+(m+1)*1,none⟩) l2 e2),(0, .slice (some ⟨gb,0,none⟩) n cap),(1, .func (.func 44) #[] #[])] _;have hle2:=hC.le;have hqm:=hC.qm;have hcs:=hC.sz;by_cases hl3:m2+1<l2
   ·skip
    obtain⟨a3,n3,c3,x3,hp3,-,hs3⟩:=Mz hcur hn hg (show m+m2+1<n from by omega);obtain⟨a4,n4,c4,x4,hp4,-,hs4⟩:=Mz hcur hn hg (show m+m2+1+1<n from by omega);have hc3:cu[m+m2+1]?=some (.slice a3 n3 c3):=(by rw[hC.rest _ (by omega) (by omega),hp3];rfl);have hc4:cu[m+m2+1+1]?=some (.slice a4 n4 c4):=(by rw[hC.rest _ (by omega) (by omega),hp4];rfl);have hS:Two K K v ⟨gb,0+(m+1)*1+(m2+1)*1,none⟩ ⟨gb,0+(m+1)*1+m2*1,none⟩ a4 a3 n4 c4 n3 c3 x4 x3:=⟨by rw[Ae _ _ _ _ _ _ hC.r,show 0+(m+1)*1+(m2+1)*1=m+m2+1+1 from by omega];exact hc4,hs4.tou hC.t hK,by rw[Ae _ _ _ _ _ _ hC.r,show 0+(m+1)*1+m2*1=m+m2+1 from by omega];exact hc3,hs3.tou hC.t hK⟩;refine BG<|BG<|Bn<|rp 32 (.int .i64 ((m2+1:Nat):Int))<|rp 33 (.slice (some ⟨gb,0+(m+1)*1,none⟩) l2 e2)<|rp 34 (.int .i64 l2)<|rv 35 (.bool true) (λ_=>CP (v:= .bool (decide (((m2+1:Nat):Int)<(l2:Int)))) (by kernel_rfl) (Av Value.bool (AT (by omega))))<|BZ<|Bv<|FA (λ_=>by kernel_rfl)<|Fu<|Bv ?_;refine BG<|FI<|BG<|RJ (λv=>Two K K v ⟨gb,0+(m+1)*1+(m2+1)*1,none⟩ ⟨gb,0+(m+1)*1+m2*1,none⟩ a4 a3 n4 c4 n3 c3 x4 x3) (by kernel_rfl) (hS.drew) ?_;replace hC:=hC.drew;replace hS:=hS.drew;refine dt 0 38 (.func (.func 44) #[] #[]) (λv hv _=>by kernel_rfl) hS<|dt 1 39 (.slice (some ⟨gb,0+(m+1)*1,none⟩) l2 e2) (λv hv _=>by kernel_rfl) hS<|dt 2 40 (.int .i64 ((m2+1:Nat):Int)) (λv hv _=>by kernel_rfl) hS<|dt 3 41 (.pointer (some ⟨gb,0+(m+1)*1+(m2+1)*1,none⟩)) (λv hv _=>AV 41 _ _ gb (0+(m+1)*1) (m2+1) l2 e2 1 27 rfl (by kernel_rfl) (by kernel_rfl) (by omega) underlying41 (by kernel_rfl)) hS<|dt 4 42 (.slice a4 n4 c4) (λv hv _=>AF 27 _ _ _ _ rfl (by kernel_rfl) hv.cc underlying27 rfl) hS<|dt 5 43 (.slice (some ⟨gb,0+(m+1)*1,none⟩) l2 e2) (λv hv _=>by kernel_rfl) hS<|dt 6 44 (.int .i64 ((m2+1:Nat):Int)) (λv hv _=>by kernel_rfl) hS<|dt 7 45 (.int .i64 (m2:Int)) (λv hv _=>CP (v:= .int .i64 (IntKind.i64.wrap (((m2+1:Nat):Int)-1))) (by kernel_rfl) (Av (Value.int .i64) (by rw[Ee (by omega) (by omega)];omega))) hS<|dt 8 46 (.pointer (some ⟨gb,0+(m+1)*1+m2*1,none⟩)) (λv hv _=>AV 41 _ _ gb (0+(m+1)*1) m2 l2 e2 1 27 rfl (by kernel_rfl) (by kernel_rfl) (by omega) underlying41 (by kernel_rfl)) hS<|dt 9 47 (.slice a3 n3 c3) (λv hv _=>AF 27 _ _ _ _ rfl (by kernel_rfl) hv.cc' underlying27 rfl) hS<|OR [10] (by kernel_rfl) (by simp) ?_;refine RM 10 48 44 #[.slice a4 n4 c4, .slice a3 n3 c3] rfl (λ_=>by kernel_rfl) (λ_=>by kernel_rfl) (R:=λu w'=>u= .bool (decide (x4=x3))/\Bl (v.drew) w') (Gm hS.sk hS.sk') (λu w' h=>hS.go h.2) ?_ Va;rintro _ u3⟨rfl,hb4⟩;replace hC:=hC.go hb4;replace hS:=hS.go hb4;refine dt 11 49 (.bool (!(decide (x4=x3)))) (λv hv _=>by kernel_rfl) hS<|RK (by kernel_rfl)<|Bv ?_;by_cases hpz:x4=x3
    ·skip
     rw[show(!(decide (x4=x3)))=false from by simp[hpz]];refine EI (λ_=>by kernel_rfl)<|Fu<|Gj<|Bv<|Bn<|rp 36 (.int .i64 ((m2+1:Nat):Int))<|rv 37 (.int .i64 ((m2+1+1:Nat):Int)) (λ_=>CP (v:= .int .i64 (IntKind.i64.wrap (((m2+1:Nat):Int)+1))) (by kernel_rfl) (Av (Value.int .i64) (by rw[Ee (by omega) (by omega)];omega)))<|rp 7 (.int .i64 ((m2+1+1:Nat):Int))<|BZ ?_;exact Ll (E:=λz=>[(7, .int .i64 ((z.1+1:Nat):Int)),(5, .int .i64 ((z.2.1:Nat):Int)),(6, .slice (some ⟨gb,0+(m+1)*1,none⟩) l2 e2),(0, .slice (some ⟨gb,0,none⟩) n cap),(1, .func (.func 44) #[] #[])]) (R:=λz v=>CI K w gb n cap m ps z.1 z.2.1 z.2.2.1 z.2.2.2 v) (μ:=λz=>n-z.1) (x:=(m2,q,cu,qs)) (m2+1,q,cu,qs) (by exact⟨λ_=>by kernel_rfl,⟨λ_=>by kernel_rfl,⟨λ_=>by kernel_rfl,⟨λ_=>by kernel_rfl,⟨λ_=>by kernel_rfl,trivial⟩⟩⟩⟩⟩) (hC.keep hp3 hp4 (by omega) hpz) (by show n-(m2+1)<n-m2;omega)
    ·skip
     rw[show(!(decide (x4=x3)))=true from by simp[hpz]];refine FA (λ_=>by kernel_rfl)<|BG<|Bn<|rp 50 (.slice (some ⟨gb,0,none⟩) n cap)<|rp 51 (.int .i64 (q:Int))<|rp 52 (.slice (some ⟨gb,0+(m+1)*1,none⟩) l2 e2)<|rp 53 (.int .i64 ((m2+1:Nat):Int))<|rv 54 (.pointer (some ⟨gb,0+(m+1)*1+(m2+1)*1,none⟩)) (λ_=>AV 41 _ _ gb (0+(m+1)*1) (m2+1) l2 e2 1 27 rfl (by kernel_rfl) (by kernel_rfl) (by omega) underlying41 (by kernel_rfl))<|rv 55 (.slice a4 n4 c4) (λ_=>AF 27 _ _ _ _ rfl (by kernel_rfl) hS.cc underlying27 rfl)<|rv 56 (.pointer (some ⟨gb,0+q*1,none⟩)) (λ_=>AV 41 _ _ gb 0 q n cap 1 27 rfl (by kernel_rfl) (by kernel_rfl) (by omega) underlying41 (by kernel_rfl))<|NO gb (0+q*1) (.slice a4 n4 c4) (λ_=>by kernel_rfl) (λ_=>BO 27 _ _ gb (0+q*1) _ _ _ hC.r rfl (by kernel_rfl) (by kernel_rfl) (by omega) rfl rfl (by kernel_rfl)) ?_;intro w5 hset;replace hset:Set1 u3 w5 gb q (.slice a4 n4 c4):=(by rw[show 0+q*1=q from by omega]at hset;exact hset);replace hC:=hC.move hp3 hp4 (by omega) (by omega) hpz ⟨_,_,_,rfl,hs4⟩ hset rfl;clear hS;refine BZ<|Bv<|Bn<|rp 57 (.int .i64 (q:Int))<|rv 58 (.int .i64 ((q+1:Nat):Int)) (λ_=>CP (v:= .int .i64 (IntKind.i64.wrap ((q:Int)+1))) (by kernel_rfl) (Av (Value.int .i64) (by rw[Ee (by omega) (by omega)];omega)))<|rp 5 (.int .i64 ((q+1:Nat):Int))<|BZ<|Gj<|Bv<|Bn<|rp 36 (.int .i64 ((m2+1:Nat):Int))<|rv 37 (.int .i64 ((m2+1+1:Nat):Int)) (λ_=>CP (v:= .int .i64 (IntKind.i64.wrap (((m2+1:Nat):Int)+1))) (by kernel_rfl) (Av (Value.int .i64) (by rw[Ee (by omega) (by omega)];omega))) ?_;refine rp 7 (.int .i64 ((m2+1+1:Nat):Int))<|BZ ?_;exact Ll (E:=λz=>[(7, .int .i64 ((z.1+1:Nat):Int)),(5, .int .i64 ((z.2.1:Nat):Int)),(6, .slice (some ⟨gb,0+(m+1)*1,none⟩) l2 e2),(0, .slice (some ⟨gb,0,none⟩) n cap),(1, .func (.func 44) #[] #[])]) (R:=λz v=>CI K w gb n cap m ps z.1 z.2.1 z.2.2.1 z.2.2.2 v) (μ:=λz=>n-z.1) (x:=(m2,q,cu,qs)) (m2+1,q+1,cu.setIfInBounds q (.slice a4 n4 c4),qs++[(.slice a4 n4 c4,x4)]) (by exact⟨λ_=>by kernel_rfl,⟨λ_=>by kernel_rfl,⟨λ_=>by kernel_rfl,⟨λ_=>by kernel_rfl,⟨λ_=>by kernel_rfl,trivial⟩⟩⟩⟩⟩) hC (by show n-(m2+1)<n-m2;omega)
   have hfin:m+1+(m2+1)=n:=(by omega);refine BG<|BG<|Bn<|rp 32 (.int .i64 ((m2+1:Nat):Int))<|rp 33 (.slice (some ⟨gb,0+(m+1)*1,none⟩) l2 e2)<|rp 34 (.int .i64 l2)<|rv 35 (.bool false) (λ_=>CP (v:= .bool (decide (((m2+1:Nat):Int)<(l2:Int)))) (by kernel_rfl) (Av Value.bool (AU (by omega))))<|BZ<|Bv<|EI (λ_=>by kernel_rfl)<|RG<|Fv ?_;refine Fv<|IS<|Bv<|BG ?_;obtain⟨l3,hl4⟩:∃l3,n=q+l3:=⟨n-q,by omega⟩;obtain⟨e3,he3⟩:∃e3,cap=q+e3:=⟨cap-q,by omega⟩;refine Bn<|rp 59 (.slice (some ⟨gb,0,none⟩) n cap)<|rp 60 (.int .i64 (q:Int))<|rv 61 (.slice (some ⟨gb,0+q*1,none⟩) l3 e3) (λ_=>NM _ _ gb 0 q n cap l3 e3 rfl (by kernel_rfl) (by kernel_rfl) hl4 he3 (by omega)) ?_;have hF:=hC.done hn hfin hK (List.replicate l3 (.slice none 0 0));refine XaH (.tuple #[]) (w':=World.setCells v gb (0+q*1) (List.replicate l3 (.slice none 0 0))) (λ_=>by kernel_rfl) (λ_=>Xh _ gb (0+q*1) l3 e3 _ rfl (by kernel_rfl) hC.r (by omega) (by omega)) ?_;generalize World.setCells v gb (0+q*1) (List.replicate l3 (.slice none 0 0))=wF at hF⊢;refine BZ<|Bv<|BG<|Bn<|rp 62 (.slice (some ⟨gb,0,none⟩) n cap)<|rp 63 (.int .i64 (q:Int))<|rv 64 (.slice (some ⟨gb,0,none⟩) q cap) (λ_=>YR _ _ gb 0 q n cap rfl (by kernel_rfl) (by kernel_rfl) (by omega) (by omega))<|rp 4 (.slice (some ⟨gb,0,none⟩) q cap)<|BZ<|Bv<|EB<|IT ?_;refine Fh<|Fh<|IT<|Fh ?_;exact CO (.slice (some ⟨gb,0,none⟩) q cap) (λ_=>by kernel_rfl) ⟨_,rfl,q,rfl,hF.1,hF.2⟩
  ·skip
   rw[show(decide (x2=x1))=false from by simp[hpq]];refine EI (λ_=>by kernel_rfl)<|Fu<|Gj<|Bv<|Bn<|rp 16 (.int .i64 ((m+1:Nat):Int))<|rv 17 (.int .i64 ((m+1+1:Nat):Int)) (λ_=>CP (v:= .int .i64 (IntKind.i64.wrap (((m+1:Nat):Int)+1))) (by kernel_rfl) (Av (Value.int .i64) (by rw[Ee (by omega) (by omega)];omega)))<|rp 5 (.int .i64 ((m+1+1:Nat):Int))<|BZ ?_;exact Ll (E:=λm=>[(5, .int .i64 ((m+1:Nat):Int)),(0, .slice (some ⟨gb,0,none⟩) n cap),(1, .func (.func 44) #[] #[])]) (R:=λm v=>Bl w v/\m+1<=n/\dd ((ps.map Prod.snd).take (m+1))=(ps.map Prod.snd).take (m+1)) (μ:=λm=>n-m) (x:=m) (m+1) (by exact⟨λ_=>by kernel_rfl,⟨λ_=>by kernel_rfl,⟨λ_=>by kernel_rfl,trivial⟩⟩⟩) ⟨hB,by omega,XaC hp1 hp2 hd hpq⟩ (by show n-(m+1)<n-m;omega)
 obtain rfl:m+1=n:=by omega
 refine BG<|BG<|Bn<|rp 12 (.int .i64 ((m+1:Nat):Int))<|rp 13 (.slice (some ⟨gb,0,none⟩) (m+1) cap)<|rp 14 (.int .i64 (m+1))<|rv 15 (.bool false) (λ_=>CP (v:= .bool (decide (((m+1:Nat):Int)<(m+1:Int)))) (by kernel_rfl) (Av Value.bool (AU (by omega))))<|BZ<|Bv<|EI (λ_=>by kernel_rfl)<|RG<|Fv ?_;refine Fv<|IS<|Bv<|BG<|Bn<|rp 65 (.slice (some ⟨gb,0,none⟩) (m+1) cap)<|rp 4 (.slice (some ⟨gb,0,none⟩) (m+1) cap)<|BZ<|Bv<|EB ?_;exact CO (.slice (some ⟨gb,0,none⟩) (m+1) cap) (λ_=>by kernel_rfl) ⟨_,rfl,m+1,rfl,(Qg hr hcur hn hg (by rw[<-hn,<-AY (f:=Prod.snd),List.take_length]at hd;exact hd)).go hB,Touch.of_below hB⟩
theorem Qi{cap:Nat}(hr:Rw gb w cur 27)(hcur:cur.toList.take n=ps.map Prod.fst)(hsz:cur.size=cap)(hn:ps.length=n)(hle:n<=cap)(hg:∀p∈ps,Gd K w p)(hK:¬K gb)(hb:n<=7600000000002):
 Calls prog 43 #[.slice (some ⟨gb,0,none⟩) n cap, .func (.func 44) #[] #[]] w λe w'=>∃u,e= .returned u/\(λu w'=>∃k,u= .slice (some ⟨gb,0,none⟩) k cap/\Bt K w' (some ⟨gb,0,none⟩) k (dd (ps.map Prod.snd))/\Touch gb w w') u w':=by
 by_cases h2:n<2
 ·exact MO hr hcur hsz hn hle hg hK hb h2
 ·exact Qh hr hcur hsz hn hle hg hK hb h2
end Go.Proofs.YtalhnnjpjaeakaaGreat
