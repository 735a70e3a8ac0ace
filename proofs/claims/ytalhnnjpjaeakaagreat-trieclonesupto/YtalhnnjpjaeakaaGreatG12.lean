/- A range over a function that hands two values. -/
import Derived.Test.YtalhnnjpjaeakaaGreatAK
import Derived.Test.YtalhnnjpjaeakaaGreatG00
import Derived.Test.YtalhnnjpjaeakaaGreatG11
import Derived.Test.YtalhnnjpjaeakaaGreatG01
import Derived.Maps.AppendAt
import Derived.Laws.AppendOwnNone
set_option linter.unusedVariables false
set_option maxRecDepth 100000
set_option maxHeartbeats 4000000
open Go.Proofs.Tryz Go.RowKit
namespace Go.Proofs.YtalhnnjpjaeakaaGreat
open Go.ChangeMaps (setBlock)
section
variable {r : Option Nat} {m : Nat} {P : Program} {ds : List Deferred} {n : Nat} {Q : Exit → Act → World → Prop} {env : Env} {w w' : World} {ops : Array Oper} {l : List Oper} {o : Oper}
theorem Ui{α:Type}{g:Operand}{p q:Tmp}{assign body:Code}(gf:Nat)(lb:Array Value)(hg:∀fb,ev env fb g= .func (.func gf) #[] lb)(hm:1<=m)(hp:p<n)(hq:q<n)(eg:∀args w,(callFunc gf args).run P w= .ok (.enter gf args) w)
 {enc enc':α->Value} {Kp:World->World->Prop} {S Sp:List α->Prop} {N:Nat} {w0:World} (hseq:SeqStopsK Fence.wide (m-1) P gf lb (λx=>#[enc x,enc' x]) Kp S Sp N w0)
 (hKt:∀{A B C:World},Kp A B->Kp B C->Kp A C) (hKb:∀(W:World)(l:Nat)(o o':Obj),w.heap.size<=l->W.heap[l]?=some o->o.isCells=false->o.isWalk=false->Kp W (W.putObj l o')) (hb0:Below w0.heap.size w0 w)
 (I:List α->World->Prop) (hI:OwnFrom w.heap.size I) (h0:I [] w) (Ax:α->Env->World->Prop) (hAx:∀x e,OwnFrom w.heap.size (λ(_:Unit) W=>Ax x e W))
 (hassign:∀(l:Nat)(pre:List α)(x:α)(W:World),I pre W->CW (some l) (m-1-1) P [] n (Exit.then (λa' W'=>KeepsFrom w.heap.size W W'/\Kp W W'/\I pre W'/\∃e,Frm [] n e a'/\Ax x e W') (λ_ _ _=>False)) assign ((q,enc' x)::(p,enc x)::env) W)
 (hbody:∀(l:Nat)(pre:List α)(x:α)(e:Env)(W:World),w.heap.size<=l->I pre W->Ax x e W->pre.length<N->CW (some l) (m-1-1) P [] n (ownPostG w.heap.size Kp I (λ_ _ _=>False) (pre++[x]) W) body e W)
 (hdone:∀(D:Nat)(xs:List α)(W:World),w.heap.size<=D->S xs->I xs W->W.heap[D]?=some (.deferred (some []))->NW [{target:= .collected D,args:=#[]}] n Q .normal env W):
 CW none m P [] n Q (.rangeFunc g #[p,q] assign body) env w:=λa ha=>by
 refine wpIn_rangeFunc_ownH (F:=Fence.wide) rfl hm (by rw[ha.ev];exact hg _) trivial eg hseq hKt hKb hb0 (λx=>rfl) I (λ_ _ _=>False) hI (λ_ _ _ _ _ hs _ _=>hs) h0 (λx a' W=>∃e,Frm [] n e a'/\Ax x e W)
  (λx a'=>λ_ W W' row hs hgr hr=>by obtain⟨e,hF,hA⟩:=hs;exact⟨e,hF,hAx x e () W W' row hA hgr hr⟩) ?_ ?_ ?_ (λD c pre W _ _ hx _=>hx.elim)
 ·intro l pre x W K hi hK;have hfr:Frm [] n ((q,enc' x)::(p,enc x)::env) {tmps:=((#[p,q]:Array Tmp).zip #[enc x,enc' x]).foldl (λt(p,v)=>t.setIfInBounds p v) a.tmps,defers:=[]}:=by
   have:=EU (EU (⟨rfl,ha.sz,ha.get⟩:Frm [] n env {tmps:=a.tmps,defers:=[]}) hp (enc x)) hq (enc' x);have e:((#[p,q]:Array Tmp).zip #[enc x,enc' x]).foldl (λt(p,v)=>t.setIfInBounds p v) a.tmps=(a.tmps.setIfInBounds p (enc x)).setIfInBounds q (enc' x):=(by simp);rw[e];exact this
  refine wpIn_mono (hassign l pre x W hi _ hfr) ?_;intro e a' W' hq;cases e with
  |normal=>exact hK a' W' hq.1 hq.2.1 hq.2.2.1 hq.2.2.2
  |exit id=>exact hq
  |goto l=>exact hq
  |ret=>exact hq
  |panic ch=>exact hq
  |outgrown=>exact hq
 ·rintro l pre x a' W hl _ hi⟨e,hF,hA⟩ hlen;exact hbody l pre x e W hl hi hA hlen a' hF
 ·intro D xs W hD hs hi hd;refine hdone D xs W hD hs hi hd _ ⟨?_,ha.sz,ha.get⟩;show _::a.defers=_;rw[ha.df]
end
end Go.Proofs.YtalhnnjpjaeakaaGreat
namespace Go.Proofs.YtalhnnjpjaeakaaGreat
open Tr
variable {K K' U : Nat → Prop} {w A B : World} {g n c B0 gB : Nat} {a : Option Addr} {Z : PList} {J : PList → World → Prop} {Jx : World → Prop}
theorem TA.old:∀{t:Tr}{v:Value},TA K w t v->TA (λb=>b<w.heap.size) w t v:=by
 have hs:∀{a:Option Addr}{n c:Nat}{bs:List Int},Sk K w a n c bs->Sk (λb=>b<w.heap.size) w a n c bs:=λh=>⟨h.ag,λx hx hn=>h.old hx hn⟩;intro t
 induction t with
 |no=>intro v h;exact h
 |leaf p x=>rintro v⟨a,n,c,a',n',c',h1,h2,h3,h4⟩;exact⟨a,n,c,a',n',c',h1,hs h2,hs h3,h4⟩
 |ext p t ih=>rintro v⟨a,n,c,u,h1,h2,h3⟩;exact⟨a,n,c,u,h1,hs h2,ih h3⟩
 |br k x ih=>rintro v⟨vs,a,n,c,h1,h2,h3,h4⟩;exact⟨vs,a,n,c,h1,λi hi=>ih i (h2 i hi),hs h3,h4⟩
theorem TA.mono(hK:∀b,K b->K' b):∀{t:Tr}{v:Value},TA K w t v->TA K' w t v:=by
 intro t
 induction t with
 |no=>intro v h;exact h
 |leaf p x=>rintro v⟨a,n,c,a',n',c',h1,h2,h3,h4⟩;exact⟨a,n,c,a',n',c',h1,h2.mono hK,h3.mono hK,h4⟩
 |ext p t ih=>rintro v⟨a,n,c,u,h1,h2,h3⟩;exact⟨a,n,c,u,h1,h2.mono hK,ih h3⟩
 |br k x ih=>rintro v⟨vs,a,n,c,h1,h2,h3,h4⟩;exact⟨vs,a,n,c,h1,λi hi=>ih i (h2 i hi),h3.mono hK,h4⟩
theorem Sk.tou{w':World}{bs:List Int}(h:Sk K w a n c bs)(t:Touch g w w')(hg:¬K g):Sk K w' a n c bs:=by
 refine⟨⟨?_,h.ag.nil,h.ag.l,h.ag.b⟩,h.k⟩;rcases h.ag.i with h1|⟨gb,off,h1,h2,h3,h4,h5,h7⟩
 ·exact .inl h1
 ·refine .inr ⟨gb,off,h1,h2,h3,h4,h5,λj hj=>?_⟩;rw[<-h7 j hj];have hk:=h.k _ h1 h3;exact Aq (t.block gb (Aj (h7 j hj)) (λe=>hg (e▸hk)))
theorem Tri.mono{t:Tr}(h:Tri K w g t)(hK:∀b,K b->K' b):Tri K' w g t:=by
 obtain⟨⟨v,h1,h2⟩,h3⟩:=h;exact⟨⟨v,h1,h2.mono hK⟩,h3⟩
theorem Tri.old{t:Tr}(h:Tri K w g t):Tri (λb=>b<w.heap.size) w g t:=by
 obtain⟨⟨v,h1,h2⟩,h3⟩:=h;exact⟨⟨v,h1,h2.old⟩,h3⟩
theorem Uj{K1:Nat->Prop}{t:Tr}{k:List Int}(h:Tri K w g t)(hk:Sk K1 w a n c k)(hK:∀b,w.heap.size<=b->K b):
 Calls prog 12 #[.pointer (some ⟨g,0,none⟩), .slice a n c] w λe w'=>∃u,e= .returned u/\u= .tuple #[.bool (if k.length<=32 then decide (Tr.get t (Ni.nib k)≠[])else false), .int .i64 (if k.length<=32 then 0 else 70)]/\Tri K w' g (delT t k)/\Touch g w w':=by
 have lk:=hk.len;unfold delT;rw[lk];by_cases hn:n<=32
 ·rw[Af hn,Af hn];by_cases hg:Tr.get t (Ni.nib k)=[]
  ·rw[Ad (λq=>q.2 hg),show decide (Tr.get t (Ni.nib k)≠[])=false from by simp[hg]];have h':=h;obtain⟨⟨v,h1,h2⟩,h3⟩:=h';exact(OS h1 h2 h3 hk hn hK hg).mono (λe w'⟨u,e1,e2,e3⟩=>⟨u,e1,e2,h.go e3,Touch.of_below e3⟩)
  ·rw[Af ⟨hn,hg⟩,show decide (Tr.get t (Ni.nib k)≠[])=true from by simp[hg]];obtain⟨⟨v,h1,h2⟩,h3⟩:=h;exact Kh h1 h2 h3 hk hn hK hg
 ·rw[Ad hn,Ad hn,Ad (λq=>hn q.1)];exact(Vr hk (by omega)).mono (λe w'⟨u,e1,e2,e3⟩=>⟨u,e1,e2,h.go e3,Touch.of_below e3⟩)
theorem KpU.any(h:KpU U A.heap.size A B)(M:Nat):KpU U M A B:=⟨h.size,λk cs T fr _ hU hP hh=>h.keep k cs T fr (lt_of_get hh) hU hP hh⟩
theorem QG{m lp:Nat}{args:Array Value}{W:World}{R R':Ending->World->Prop}(h:YieldAt Fence.wide m prog lp args W R)(hr:∀e w,R e w->R' e w):YieldAt Fence.wide m prog lp args W R':=by
 obtain⟨fn,tmps,assign,body,hy,hR⟩:=h;exact⟨fn,tmps,assign,body,hy,RoundIn.mono hR hr⟩
theorem IJ{a b:World}(h:Below a.heap.size a b):a.grownBy b none:=⟨h.os,h.tape,h.output,h.size,λk hk _=>h.block k hk⟩
theorem SL:
 Calls prog 45 #[.pointer (some ⟨g,0,none⟩)] w λe w'=>∃u,e= .returned u/\(λu w'=>(∃gB,u= .func (.func 63) #[] #[.pointer (some ⟨gB,0,none⟩)]/\Rw gB w' #[.pointer (some ⟨g,0,none⟩)] 23/\w.heap.size<=gB)/\Bl w w') u w':=by
 have hB:=Bl.refl w;refine DB func45 4<|Hn 2 (#[.pointer (some ⟨g,0,none⟩)]) 23 ?_;intro w1 g2 hn3 hr4;replace hB:=hB.go hn3.below;exact Hr 10 (.func (.func 63) #[] #[.pointer (some ⟨g2,0,none⟩)]) ⟨_,rfl,⟨g2,rfl,hr4,by rw[hn3.hg];exact Aa _⟩,hB⟩
theorem Yk{l:Nat}(V:Vis l B0 Z U J Jx)(hgB:Rw gB w #[.pointer (some ⟨g,0,none⟩)] 23)(hr:Rw g w #[.nilIface] 67)(hJ:J [] w)(hB0:B0<=w.heap.size):
 Calls prog 63 #[.func (.yield l) #[] #[], .pointer (some ⟨gB,0,none⟩)] w λe w'=>∃u,e= .returned u/\(λu w'=>J [] w'∨Jx w') u w':=by
 have hB:=Bl.refl w;refine DB func63 14<|Hn 2 (#[.func (.yield l) #[] #[]]) 86 ?_;intro w1 g2 hn3 hr4;replace hJ:=V.go hJ hn3.below;have hgY:=hn3.hg;replace hgB:=hgB.go hn3.below;refine Hl 5 hgB 0 23 (.pointer (some ⟨g,0,none⟩)) ?_;replace hr:=hr.go hn3.below;refine Hl 2 hr 0 65 (.nilIface) ?_;exact Hr 6 (.tuple #[]) ⟨_,rfl, .inl hJ⟩
theorem Wp{l:Nat}(V:Vis l B0 Z U J Jx){T0:TypeId}{v0:Value}(hgB:Rw gB w #[.pointer (some ⟨g,0,none⟩)] 23)(hr:Rw g w #[.iface T0 v0] 67)(hJ:J [] w)(hB0:B0<=w.heap.size){t:Tr}(ht:TA K w t (.iface T0 v0))(hO:Tr.Ok 64 t)(hKU:∀b,K b->¬U b)(hN:([]++entsF [] t)<+:Z):
 Calls prog 63 #[.func (.yield l) #[] #[], .pointer (some ⟨gB,0,none⟩)] w λe w'=>∃u,e= .returned u/\(λu w'=>J (entsF [] t) w'∨Jx w') u w':=by
 have hB:=Bl.refl w;refine EP func63 rfl 14 rfl ?_;show CW _ _ _ _ _ _ _ [(0, .func (.yield l) #[] #[]),(1, .pointer (some ⟨gB,0,none⟩))] _;refine BG<|Bn<|Qo 2 (#[.func (.yield l) #[] #[]]) 86 (λ_=>by kernel_rfl) (λ_=>by kernel_rfl) ?_;intro w1 g2 hn3;replace hB:=hB.go hn3.below;replace hgB:=hgB.go hn3.below;replace hr:=hr.go hn3.below;replace hJ:=V.go hJ hn3.below;replace ht:=ht.go hn3.below;have hr4:Rw g2 w1 (#[.func (.yield l) #[] #[]]) 86:=hn3.row;refine BY ?_;have hgY:=hn3.hg;refine Bv<|BG<|BG<|Bn<|rv 3 (.pointer (some ⟨g,0,none⟩)) (λ_=>AF 23 _ ⟨gB,0,none⟩ _ _ rfl (by kernel_rfl) (by rw[Ae _ _ _ _ _ _ hgB];rfl) underlying23 rfl)<|rp 4 (.pointer (some ⟨g,0,none⟩))<|rp 5 (.pointer (some ⟨g,0,none⟩))<|rv 6 (.iface T0 v0) (λ_=>AF 65 _ ⟨g,0,none⟩ _ _ rfl (by kernel_rfl) (by rw[Ae _ _ _ _ _ _ hr];rfl) underlying65 rfl)<|rp 7 (.bool false)<|BY<|Bv<|EI (λ_=>by kernel_rfl) ?_;refine Ft<|Bv<|Bn<|rv 8 (.pointer (some ⟨g,0,none⟩)) (λ_=>AF 23 _ ⟨gB,0,none⟩ _ _ rfl (by kernel_rfl) (by rw[Ae _ _ _ _ _ _ hgB];rfl) underlying23 rfl)<|rp 9 (.pointer (some ⟨g,0,none⟩))<|rp 10 (.pointer (some ⟨g,0,none⟩))<|rv 11 (.iface T0 v0) (λ_=>AF 65 _ ⟨g,0,none⟩ _ _ rfl (by kernel_rfl) (by rw[Ae _ _ _ _ _ _ hr];rfl) underlying65 rfl)<|rp 12 (.func (.func 64) #[] #[.pointer (some ⟨g2,0,none⟩)]) ?_;obtain⟨T7,x8,f9,he10,hi5,hc6⟩:=(ZG V t hO (by omega) ht hKU (Sk.nil (λ_=>False) _) (λb hb=>hb.elim) hr4 (λhu=>by have:=V.lo _ hu;omega) hJ hN (Al hB0 hB.size));refine Hu 13 f9 (#[x8]++#[.slice none 0 0, .func (.func 64) #[] #[.pointer (some ⟨g2,0,none⟩)]]) (λ_=>by kernel_rfl) (λ_=>hi5 _ _ _ _ _ _ _ rfl (by kernel_rfl) (by kernel_rfl)) (R:=RB U J Jx (w1) ([]++entsF [] t)) ?_ ?_
 ·exact hc6
 rintro _ u8⟨b8,rfl,hR8,hX8⟩;refine BY ?_;cases b8 with
 |true=>exact Ke (.tuple #[]) (λ_=>by kernel_rfl) ⟨_,rfl, .inl (hR8 rfl).1⟩
 |false=>exact Ke (.tuple #[]) (λ_=>by kernel_rfl) ⟨_,rfl, .inr (hX8 rfl)⟩
theorem Px{l:Nat}(V:Vis l B0 Z U J Jx)(hgB:Rw gB w #[.pointer (some ⟨g,0,none⟩)] 23)(hJ:J [] w)(hB0:B0<=w.heap.size){t:Tr}{v:Value}(hr:Rw g w #[v] 67)(ht:TA K w t v)(hok:t=no∨Tr.Ok 64 t)(hKU:∀b,K b->¬U b)(hN:entsF [] t<+:Z):
 Calls prog 63 #[.func (.yield l) #[] #[], .pointer (some ⟨gB,0,none⟩)] w λe w'=>∃u,e= .returned u/\(J (entsF [] t) w'∨Jx w'):=by
 rcases hok with rfl|hO
 ·rw[show v= .nilIface from ht]at hr;exact Yk V hgB hr hJ hB0
 ·obtain⟨T0,v0,rfl⟩:=ht.iface hO.ne;exact Wp V hgB hr hJ hB0 ht hO hKU hN
def KpR(U:Nat->Prop)(A B:World):Prop:=KpU U A.heap.size A B
theorem Xaj{C:World}(h:KpR U A B)(g:KpR U B C):KpR U A C:=KpU.trans h g h.size
theorem Xak{N:Nat}(W:World)(l:Nat)(o o':Obj)(_:N<=l)(hl:W.heap[l]?=some o)(ho:o.isCells=false)(_:o.isWalk=false):KpR U W (W.putObj l o'):=⟨by simp,λk cs T fr _ _ _ hh=>(C8 (λe=>by subst e;rw[hh]at hl;cases hl;cases ho)).trans hh⟩
theorem Uk(hU:∀b,U b->b<w.heap.size)(hgB:Rw gB w #[.pointer (some ⟨g,0,none⟩)] 23){t:Tr}{v:Value}(hr:Rw g w #[v] 67)(ht:TA K w t v)(hok:t=no∨Tr.Ok 64 t)(hKU:∀b,K b->¬U b)(m:Nat):
 SeqStopsK Fence.wide m prog 63 #[.pointer (some ⟨gB,0,none⟩)] (λx:Value×Value=>#[x.1,x.2]) (KpR U) (λxs=>xs.length=(entsF [] t).length) (λ_=>True) (entsF [] t).length w:=by
 intro l J Jx W hb hJ hJx hy h0;have V:Vis l W.heap.size (entsF [] t) U (λpre W1=>∃vs:List (Value×Value),vs.length=pre.length/\J vs W1) (λW1=>∃vs,Jx vs W1):=by
  refine⟨?_,?_,λb hu=>Bw (hU b hu) hb.size,?_⟩
  ·rintro pre A B⟨vs,h1,h2⟩ hAB;exact⟨vs,h1,hJ vs A B none h2 (IJ hAB) (λr e=>by cases e)⟩
  ·rintro A B⟨vs,h2⟩ hAB;exact⟨vs,hJx vs A B none h2 (IJ hAB) (λr e=>by cases e)⟩
  ·rintro pre W1 M a a' n c n' c' k x⟨vs,h1,h2⟩ _ hN _ _ _ _ _ _;refine JF (QG (hy vs (.slice a n c, .slice a' n' c') W1 h2 (by have:=hN.length_le;simp only[Ab,C3]at this;omega)) ?_);rintro e W'(⟨rfl,h3,h4⟩|⟨rfl,h3⟩)
   ·exact .inl ⟨rfl,⟨_,by simp[h1],h3⟩,KpU.any h4 M⟩
   ·exact .inr ⟨rfl,_,h3⟩
 refine E1.2<|(Px V (hgB.go hb) ⟨[],rfl,h0⟩ (Aa _) (hr.go hb) (ht.go hb) hok hKU List.prefix_rfl).mono ?_;rintro e W'⟨u,rfl,(⟨vs,h1,h2⟩|⟨vs,h2⟩)⟩
 ·exact⟨⟨u,rfl⟩, .inl ⟨vs,h1,h2⟩⟩
 ·exact⟨⟨u,rfl⟩, .inr ⟨vs,trivial,h2⟩⟩
def Cnt(w:World)(gN:Nat)(xs:List (Value×Value))(W:World):Prop:=Rw gN W #[.int .i64 ((xs.length:Nat):Int)] 3/\Bl w W
theorem Yl{gN:Nat}(B:Nat)(hB:w.heap.size<=B):OwnFrom B (Cnt w gN):=λs X Y row hs hg hrow=>by
 obtain⟨h1,hb⟩:=hs;refine⟨(hg.block gN (lt_of_get h1) (λe'=>?_)).trans h1,Below.grown hb hg hb.size (λk e=>Al hB (hrow k e).1)⟩;obtain⟨o,ho,hc⟩:=(hrow gN e'.symm).2;unfold Rw at h1;rw[h1]at ho;cases ho;cases hc
theorem Yn{t:Tr}{v:Value}(hr:Rw g w #[v] 67)(ht:TA K w t v)(hok:t=no∨Tr.Ok 64 t)(hN:(entsF [] t).length<=4611686018427387904):
 Calls prog 21 #[.pointer (some ⟨g,0,none⟩)] w λe w'=>∃u,e= .returned u/\(λu w'=>u= .int .i64 (((entsF [] t).length:Nat):Int)/\Bl w w') u w':=by
 have hB:=Bl.refl w;replace ht:=ht.old;refine MF func21 rfl 11 rfl ?_;show CW _ _ _ _ _ _ _ [(0, .pointer (some ⟨g,0,none⟩))] _;refine BG<|Bn<|rp 2 (.int .i64 0)<|BY<|Bv<|BG<|Bn<|Qo 3 #[.int .i64 0] 3 (λ_=>by kernel_rfl) (λ_=>by kernel_rfl) ?_;intro wA gN hnA;refine NF gN 0 (.int .i64 0) (λ_=>by kernel_rfl) (λ_=>BO 3 _ _ gN 0 #[.int .i64 0] 3 _ hnA.row rfl (by kernel_rfl) (by kernel_rfl) (by decide) rfl rfl (by kernel_rfl)) ?_;intro wC hsC;have hgN:=hnA.hg;have hC:Rw gN wC #[.int .i64 0] 3:=(show Rw gN wA #[.int .i64 0] 3 from hnA.row).set hsC rfl;have hBC:Bl w wC:=hsC.touch.below hnA.below (by omega) (by have:=hnA.size;omega);replace hr:=hr.go hBC;replace ht:=ht.go hBC;replace hB:=hBC;refine BY<|Bv<|BG<|BG<|Bn<|rp 4 (.pointer (some ⟨g,0,none⟩))<|Hu 5 45 #[.pointer (some ⟨g,0,none⟩)] (λ_=>by kernel_rfl) (λ_=>by kernel_rfl) (R:=λu w'=>(∃gB,u= .func (.func 63) #[] #[.pointer (some ⟨gB,0,none⟩)]/\Rw gB w' #[.pointer (some ⟨g,0,none⟩)] 23/\wC.heap.size<=gB)/\Bl wC w') (SL) ?_;rintro _ w2⟨⟨gB,rfl,hgB,hgB2⟩,hb2⟩;replace hB:=hB.go hb2;replace hr:=hr.go hb2;replace ht:=ht.go hb2;replace hC:=hC.go hb2;refine BY<|Bv<|FH<|UV [(3, .pointer (some ⟨gN,0,none⟩)),(5, .func (.func 63) #[] #[.pointer (some ⟨gB,0,none⟩)])] (by exact⟨λ_=>by kernel_rfl,⟨λ_=>by kernel_rfl,trivial⟩⟩) ?_;have hgl:=lt_of_get hC;refine Ui (α:=Value×Value) (enc:=λx=>x.1) (enc':=λx=>x.2) 63 #[.pointer (some ⟨gB,0,none⟩)] (λ_=>by kernel_rfl) (by decide) (by decide) (by decide) (λargs w=>by kernel_rfl) (Uk (U:=λb=>b=gN) (λb hb=>by subst hb;exact hgl) hgB hr ht hok (λb hb hu=>by subst hu;omega) 19) Xaj Xak (Ak _ _) (Cnt w gN) (Yl _ hB.size) ⟨hC,hB⟩ (λx e W=>e=[(3, .pointer (some ⟨gN,0,none⟩))]) (λx e _ X Y row h _ _=>h) ?_ ?_ ?_
 ·rintro lp pre x W hI;refine Ft ?_;exact λa ha=>⟨KeepsFrom.refl _ _,⟨Aa _,λk cs T fr _ _ _ hh=>hh⟩,hI,_,ha.sub (env':=[(3, .pointer (some ⟨gN,0,none⟩))]) (by exact⟨λ_=>by kernel_rfl,trivial⟩),rfl⟩
 ·rintro lp pre x e W hlp hI rfl hlen;obtain⟨h1,hb⟩:=hI;refine FH<|Bn<|rv 8 (.int .i64 ((pre.length:Nat):Int)) (λ_=>AF 3 _ ⟨gN,0,none⟩ _ _ rfl (by kernel_rfl) (by rw[Ae _ _ _ _ _ _ h1];rfl) underlying3 rfl)<|rv 9 (.int .i64 ((pre.length+1:Nat):Int)) (λ_=>CO (v:= .int .i64 (IntKind.i64.wrap (((pre.length:Nat):Int)+1))) (by kernel_rfl) (Av (Value.int .i64) (by rw[Ee (by omega) (by omega)];omega)))<|NF gN 0 (.int .i64 ((pre.length+1:Nat):Int)) (λ_=>by kernel_rfl) (λ_=>BO 3 _ _ gN 0 _ 3 _ h1 rfl (by kernel_rfl) (by kernel_rfl) (by show 0<1;omega) rfl rfl (by kernel_rfl)) ?_;intro W3 hs3;refine BY<|Gh ?_;refine Zl ⟨by rw[hs3.size];exact Aa _,λk o hk ho hc=>(hs3.other (λe=>by subst e;omega)).trans ho⟩ ⟨by rw[hs3.size];exact Aa _,λk cs T fr _ hU _ hh=>(hs3.other hU).trans hh⟩ ⟨?_,hs3.touch.below hb (by omega) hb.size⟩;rw[Ab,C3];exact h1.set hs3 rfl
 intro D xs W hD hS hI hdd;obtain⟨h1,hb⟩:=hI;rw[hS]at h1;refine Gh<|Bv<|BG<|Bn<|rv 10 (.int .i64 (((entsF [] t).length:Nat):Int)) (λ_=>AF 3 _ ⟨gN,0,none⟩ _ _ rfl (by kernel_rfl) (by rw[Ae _ _ _ _ _ _ h1];rfl) underlying3 rfl)<|rp 2 (.int .i64 (((entsF [] t).length:Nat):Int))<|BY<|Bv<|EB ?_;exact IR hdd (.int .i64 (((entsF [] t).length:Nat):Int)) (λ_=>by kernel_rfl) ⟨_,rfl,rfl,Below.grown hb (grownBy_putObj' _ _ _) hb.size (λk e=>by cases e;exact Al hB.size hD)⟩
theorem Yo{t:Tr}(h:Tri K w g t)(hN:(entsF [] t).length<=4611686018427387904):
 Calls prog 21 #[.pointer (some ⟨g,0,none⟩)] w λe w'=>∃u,e= .returned u/\u= .int .i64 (((entsF [] t).length:Nat):Int)/\Bl w w':=by
 obtain⟨⟨v,h1,h2⟩,h3⟩:=h;exact Yn h1 h2 h3 hN
end Go.Proofs.YtalhnnjpjaeakaaGreat
namespace Go.Proofs.YtalhnnjpjaeakaaGreat
namespace Tr
end Tr
namespace Tr
end Tr
end Go.Proofs.YtalhnnjpjaeakaaGreat
namespace Go.Proofs.YtalhnnjpjaeakaaGreat
open Ni (lessP GJ)
theorem Db:∀a:List Int,lessP a a=false
 |[]=>rfl
 |x::r=>by simp[lessP,Db r]
theorem D1:∀a b c:List Int,lessP a b=true->lessP b c=true->lessP a c=true
 |[],[],_,h,_=>by simp[lessP]at h
 |[],_::_,[],_,h=>by simp[lessP]at h
 |[],_::_,_::_,_,_=>rfl
 |_::_,[],_,h,_=>by simp[lessP]at h
 |_::_,_::_,[],_,h=>by simp[lessP]at h
 |x::a,y::b,z::c,h,k=>by
  simp only[lessP]at h k⊢;by_cases h1:x=y
  ·subst h1;rw[Af rfl]at h;by_cases h2:x=z
   ·subst h2;rw[Af rfl]at k⊢;exact D1 a b c h k
   ·rw[Ad h2]at k⊢;exact k
  ·rw[Ad h1]at h;by_cases h2:y=z
   ·subst h2;rw[Ad h1];exact h
   ·rw[Ad h2]at k;have h3:=CQ h;have h4:=CQ k;rw[Ad (by omega)];exact AU (by omega)
theorem FQ(a b:List Int)(h:a≠b)(k:lessP a b=false):lessP b a=true:=by
 have:=GJ a b;simpa[h,k]using this
def cmpP(a b:List Int):Int:=if a=b then 0 else if lessP a b then-1 else 1
theorem ZH(a b:List Int):decide (cmpP a b<0)=lessP a b:=by
 unfold cmpP;by_cases h:a=b
 ·subst h;simp[Db]
 ·rw[Ad h];cases lessP a b<;>simp
def SrtB(M:List (List Int)):Prop:=M.Pairwise λa b=>lessP a b=true
theorem JN:∀A B:List (List Int),SrtB A->SrtB B->(∀x,x∈A↔x∈B)->A=B
 |[],[],_,_,_=>rfl
 |[],b::B,_,_,h=>by have:=(h b).2 (by simp);simp at this
 |a::A,[],_,_,h=>by have:=(h a).1 (by simp);simp at this
 |a::A,b::B,hA,hB,h=>by
  obtain⟨ha,hA'⟩:=Be.1 hA;obtain⟨hb,hB'⟩:=Be.1 hB;have e:a=b:=by
   rcases A3.1 ((h a).1 (by simp))with q|q
   ·exact q
   ·rcases A3.1 ((h b).2 (by simp))with p|p
    ·exact p.symm
    ·have:=D1 _ _ _ (ha _ p) (hb _ q);rw[Db]at this;cases this
  subst e;congr 1;refine JN A B hA' hB' λx=>⟨λhx=>?_,λhx=>?_⟩
  ·rcases A3.1 ((h x).1 (AB _ hx))with q|q
   ·subst q;have:=ha _ hx;rw[Db]at this;cases this
   ·exact q
  ·rcases A3.1 ((h x).2 (AB _ hx))with q|q
   ·subst q;have:=hb _ hx;rw[Db]at this;cases this
   ·exact q
def ddg(p:List Int):List (List Int)->List (List Int)
 |[]=>[]
 |y::r=>if y=p then ddg p r else y::ddg y r
def dd:List (List Int)->List (List Int)
 |[]=>[]
 |x::r=>x::ddg x r
theorem LI(b a:List Int):∀(M:List (List Int))(p:List Int),ddg p (M++[a,b])=ddg p (M++[a])++(if b=a then[]else[b])
 |[],p=>by
  simp only[A6,ddg];by_cases h:a=p
  ·subst h;by_cases k:b=a<;>simp[k]
  ·simp only[Ad h];by_cases k:b=a<;>simp[k]
 |y::M,p=>by
  simp only[Ca,ddg];by_cases h:y=p
  ·rw[Af h,Af h];exact LI b a M p
  ·rw[Ad h,Ad h,LI b a M y,Ca]
theorem Yp(M:List (List Int))(a b:List Int):dd (M++[a,b])=dd (M++[a])++(if b=a then[]else[b]):=by
 cases M with
 |nil=>simp only[A6,dd,ddg];by_cases h:b=a<;>simp[h]
 |cons x M=>simp only[Ca,dd];rw[LI]
theorem O1(x:List Int):∀(M:List (List Int))(p:List Int),(x=p∨x∈ddg p M)↔(x=p∨x∈M)
 |[],p=>by simp[ddg]
 |y::M,p=>by
  simp only[ddg];by_cases h:y=p
  ·subst h;rw[Af rfl,O1 x M y];constructor
   ·rintro(q|q)
    ·exact .inl q
    ·exact .inr (AB _ q)
   ·rintro(q|q)
    ·exact .inl q
    ·rcases A3.1 q with q|q
     ·exact .inl q
     ·exact .inr q
  ·rw[Ad h];have:=O1 x M y;simp only[A3];constructor
   ·rintro(q|q)
    ·exact .inl q
    ·exact .inr (this.1 q)
   ·rintro(q|q)
    ·exact .inl q
    ·exact .inr (this.2 q)
theorem ZI(x:List Int)(M:List (List Int)):x∈dd M↔x∈M:=by
 cases M with
 |nil=>rfl
 |cons y M=>
  simp only[dd,A3];exact O1 x M y
theorem O2:∀(M:List (List Int))(p:List Int),(p::M).Pairwise (λa b=>lessP b a=false)->SrtB (p::ddg p M)
 |[],p,_=>by simp[ddg,SrtB]
 |y::M,p,h=>by
  obtain⟨h1,h2⟩:=Be.1 h;obtain⟨h3,h4⟩:=Be.1 h2;simp only[ddg];by_cases e:y=p
  ·subst e;rw[Af rfl];exact O2 M y h2
  ·rw[Ad e];have ih:=O2 M y h2;refine Be.2 ⟨λz hz=>?_,ih⟩;have hpy:=FQ y p e (h1 y (by simp));rcases A3.1 hz with q|q
   ·rw[q];exact hpy
   ·exact D1 _ _ _ hpy ((Be.1 ih).1 z q)
theorem ZJ(M:List (List Int))(h:M.Pairwise (λa b=>lessP b a=false)):SrtB (dd M):=by
 cases M with
 |nil=>simp[dd,SrtB]
 |cons y M=>exact O2 M y h
theorem ZK:∀M:List (List Int),(dd M).length<=M.length:=by
 have h:∀(M:List (List Int))(p:List Int),(ddg p M).length<=M.length:=by
  intro M
  induction M with
  |nil=>intro p;simp[ddg]
  |cons y M ih=>intro p;simp only[ddg];split<;>simp<;>(have:=ih p;have:=ih y;omega)
 intro M;cases M with
 |nil=>simp[dd]
 |cons x M=>simp only[dd,AP];have:=h M x;omega
end Go.Proofs.YtalhnnjpjaeakaaGreat
namespace Go.Proofs.YtalhnnjpjaeakaaGreat
open Tr
open Ni (lessP)
def entsR:Tr->PList
 |no=>[]
 |leaf q x=>[(q,x)]
 |ext q c=>(entsR c).map λe=>(q++e.1,e.2)
 |br k x=>(if x=[]then[]else[([],x)])++(List.range 16).flatMap λi=>(entsR (k i)).map λe=>((i:Int)::e.1,e.2)
theorem FR{α β:Type}(f g:α->List β):∀l:List α,(∀i∈l,f i=g i)->l.flatMap f=l.flatMap g
 |[],_=>rfl
 |a::l,h=>by rw[Cm,Cm,h a (by simp),FR f g l (λi hi=>h i (AB _ hi))]
theorem Py:∀(t:Tr)(q:List Int),entsF q t=(entsR t).map λe=>((Ni.keyP (q++e.1)).1,e.2):=by
 intro t
 induction t with
 |no=>intro q;rfl
 |leaf p x=>intro q;rfl
 |ext p c ih=>intro q;simp[entsF,entsR,ih,List.append_assoc]
 |br k x ih=>
  intro q;simp only[entsF,entsR,List.map_append,List.map_flatMap];congr 1
  ·by_cases h:x=[]<;>simp[h]
  ·refine FR _ _ _ (λi _=>?_);rw[ih i];by_cases h:(k i).isNo=true
   ·rw[if_pos h];cases hk:k i<;>simp_all [isNo,entsR]
   ·rw[if_neg h];simp[List.map_map,Function.comp,List.append_assoc]
theorem Wu(q a b:List Int):lessP (q++a) (q++b)=lessP a b:=by
 induction q with
 |nil=>rfl
 |cons x q ih=>simp[lessP,ih]
def SrtP(l:PList):Prop:=l.Pairwise λe f=>lessP e.1 f.1=true
theorem LJ{α:Type}{R:α->α->Prop}(f:Nat->List α):∀n:Nat,(∀i,i<n->(f i).Pairwise R)->(∀i j,i<j->j<n->∀a∈f i,∀b∈f j,R a b)->((List.range n).flatMap f).Pairwise R
 |0,_,_=>by simp
 |n+1,h1,h2=>by
  rw[CE,BW,List.pairwise_append];refine⟨LJ f n (λi hi=>h1 i (by omega)) (λi j hij hj=>h2 i j hij (by omega)),by simpa using h1 n (by omega),?_⟩;intro a ha b hb;obtain⟨i,hi,hai⟩:=Cc.1 ha;have hb':b∈f n:=by simpa using hb
  exact h2 i n (DT.1 hi) (by omega) a hai b hb'
theorem Wv:∀t:Tr,SrtP (entsR t):=by
 intro t
 induction t with
 |no=>simp[entsR,SrtP]
 |leaf p x=>simp[entsR,SrtP]
 |ext p c ih=>
  simp only[entsR,SrtP,Eo]at ih⊢;exact ih.imp (λh=>by rw[Wu];exact h)
 |br k x ih=>
  simp only[entsR,SrtP];rw[List.pairwise_append];refine⟨?_,?_,?_⟩
  ·by_cases h:x=[]<;>simp[h]
  ·refine LJ _ 16 (λi hi=>?_) (λi j hij hj a ha b hb=>?_)
   ·rw[Eo];exact(ih i).imp (λh=>by simp[lessP,h])
   ·obtain⟨e,_,rfl⟩:=BE.1 ha;obtain⟨f,_,rfl⟩:=BE.1 hb;simp only[lessP];rw[Ad (by omega)];exact AU (by omega)
  ·intro a ha b hb;obtain⟨i,_,hbi⟩:=Cc.1 hb;obtain⟨f,_,rfl⟩:=BE.1 hbi;by_cases h:x=[]
   ·simp[h]at ha
   ·simp[h]at ha;rw[ha];rfl
theorem Jz:∀(t:Tr){B:Nat},Tr.Ok B t->∀p x,(p,x)∈entsR t↔(Nb p/\Tr.get t p=x/\x≠[]):=by
 intro t
 induction t with
 |no=>intro B hO;exact hO.elim
 |leaf q v=>
  intro B hO p x;simp only[entsR,D7,CD,Tr.get];constructor
  ·rintro⟨rfl,rfl⟩;exact⟨hO.1,Af rfl,hO.2.2⟩
  ·rintro⟨h1,h2,h3⟩;by_cases e:p=q
   ·rw[Af e]at h2;exact⟨e,h2.symm⟩
   ·rw[Ad e]at h2;exact absurd h2.symm h3
 |ext q c ih=>
  intro B hO p x;obtain⟨o1,o2,o3,o4,o5⟩:=hO;simp only[entsR,BE,CD,Tr.get];constructor
  ·rintro⟨⟨p',x'⟩,hm,rfl,rfl⟩;obtain⟨h1,h2,h3⟩:=(ih o5 p' x').1 hm;exact⟨o1.app h1,by simp[h2],h3⟩
  ·rintro⟨h1,h2,h3⟩;by_cases e:p.take q.length=q
   ·rw[Af e]at h2;refine⟨(p.drop q.length,x),(ih o5 _ _).2 ⟨h1.drop _,h2,h3⟩,?_,rfl⟩;have:=Bf q.length p;rw[e]at this;exact this
   ·rw[Ad e]at h2;exact absurd h2.symm h3
 |br k v ih=>
  intro B hO p x;simp only[entsR,AS,Cc,DT,BE,CD];constructor
  ·rintro(h|⟨i,hi,⟨p',x'⟩,hm,rfl,rfl⟩)
   ·by_cases e:v=[]
    ·simp[e]at h
    ·simp[e]at h;obtain⟨rfl,rfl⟩:=h;exact⟨λi hi=>by simp at hi,rfl,e⟩
   ·rcases hO.1 i with h|⟨h16,hB1,hk⟩
    ·rw[h]at hm;simp[entsR]at hm
    ·obtain⟨h1,h2,h3⟩:=(ih i hk p' x').1 hm;refine⟨λj hj=>?_,by simpa[Tr.get]using h2,h3⟩;rcases A3.1 hj with e|hj
     ·omega
     ·exact h1 j hj
  ·rintro⟨h1,h2,h3⟩;cases p with
   |nil=>
    left;have h2:v=x:=h2;rw[Ad (by rw[h2];exact h3)];simp[h2]
   |cons i r=>
    right;have hi:=h1.head;obtain⟨j,rfl⟩:=Dj hi.1;have h2:Tr.get (k j) r=x:=h2;rcases hO.1 j with h|⟨h16,hB1,hk⟩
    ·rw[h]at h2;exact absurd h2.symm h3
    ·exact⟨j,h16,(r,x),(ih j hk r x).2 ⟨h1.tail,h2,h3⟩,rfl,rfl⟩
theorem Nd:∀A B:PList,SrtP A->SrtP B->(∀x,x∈A↔x∈B)->A=B
 |[],[],_,_,_=>rfl
 |[],b::B,_,_,h=>by have:=(h b).2 (by simp);simp at this
 |a::A,[],_,_,h=>by have:=(h a).1 (by simp);simp at this
 |a::A,b::B,hA,hB,h=>by
  obtain⟨ha,hA'⟩:=Be.1 hA;obtain⟨hb,hB'⟩:=Be.1 hB;have e:a=b:=by
   rcases A3.1 ((h a).1 (by simp))with q|q
   ·exact q
   ·rcases A3.1 ((h b).2 (by simp))with p|p
    ·exact p.symm
    ·have:=D1 _ _ _ (ha _ p) (hb _ q);rw[Db]at this;cases this
  subst e;congr 1;refine Nd A B hA' hB' λx=>⟨λhx=>?_,λhx=>?_⟩
  ·rcases A3.1 ((h x).1 (AB _ hx))with q|q
   ·subst q;have:=ha _ hx;rw[Db]at this;cases this
   ·exact q
  ·rcases A3.1 ((h x).2 (AB _ hx))with q|q
   ·subst q;have:=hb _ hx;rw[Db]at this;cases this
   ·exact q
def Byk(k:List Int):Prop:=∀y∈k,0<=y/\y<256
def atN(k:List Int):PList->Nat
 |[]=>0
 |e::r=>if lessP e.1 k then atN k r+1 else 0
theorem O3(k:List Int):∀l:PList,atN k l<=l.length
 |[]=>Aa _
 |e::r=>by have:=O3 k r;simp only[atN];split<;>simp<;>omega
def isAt(k:List Int)(l:PList):Bool:=match l[atN k l]? with
 |some e=>decide (e.1=k)
 |none=>false
def putR(k x:List Int):PList->PList
 |[]=>[(k,x)]
 |e::r=>if lessP e.1 k then e::putR k x r else if e.1=k then(k,x)::r else(k,x)::e::r
def delR(k:List Int):PList->PList
 |[]=>[]
 |e::r=>if lessP e.1 k then e::delR k r else if e.1=k then r else e::r
theorem JO(k:List Int)(e:List Int×List Int)(r:PList):isAt k (e::r)=if lessP e.1 k then isAt k r else decide (e.1=k):=by
 unfold isAt;simp only[atN];by_cases h:lessP e.1 k=true
 ·simp[h]
 ·simp[h]
theorem LK(k x:List Int):∀l:PList,putR k x l=l.take (atN k l)++[(k,x)]++l.drop (if isAt k l then atN k l+1 else atN k l)
 |[]=>by simp[putR,atN,isAt]
 |e::r=>by
  have ih:=LK k x r;rw[JO];simp only[putR,atN];by_cases h:lessP e.1 k=true
  ·simp only[h,if_true];rw[ih];cases isAt k r<;>simp
  ·simp only[h,BT,DQ];by_cases e1:e.1=k
   ·simp[e1]
   ·simp[e1]
theorem LL(k:List Int):∀l:PList,delR k l=if isAt k l then l.take (atN k l)++l.drop (atN k l+1)else l
 |[]=>by simp[delR]
 |e::r=>by
  have ih:=LL k r;rw[JO];simp only[delR,atN];by_cases h:lessP e.1 k=true
  ·simp only[h,if_true];rw[ih];cases isAt k r<;>simp
  ·simp only[h,BT,DQ];by_cases e1:e.1=k
   ·simp[e1]
   ·simp[e1]
theorem LM(k:List Int):∀l:PList,SrtP l->(isAt k l=true↔∃x,(k,x)∈l)
 |[],_=>by simp[isAt]
 |e::r,h=>by
  obtain⟨h1,h2⟩:=Be.1 h;rw[JO];by_cases hl:lessP e.1 k=true
  ·rw[Af hl,LM k r h2];constructor
   ·rintro⟨x,hx⟩;exact⟨x,AB _ hx⟩
   ·rintro⟨x,hx⟩;rcases A3.1 hx with q|q
    ·rw[<-q]at hl;simp[Db]at hl
    ·exact⟨x,q⟩
  ·rw[Ad hl];constructor
   ·intro hd;have:=CQ hd;exact⟨e.2,by rw[<-this];simp⟩
   ·rintro⟨x,hx⟩;rcases A3.1 hx with q|q
    ·exact AU (by rw[<-q])
    ·exact absurd (h1 _ q) hl
theorem J0(k x:List Int):∀l:PList,SrtP l->∀k' x',(k',x')∈putR k x l↔(k'=k/\x'=x)∨(k'≠k/\(k',x')∈l)
 |[],_,k',x'=>by simp[putR]
 |e::r,h,k',x'=>by
  obtain⟨h1,h2⟩:=Be.1 h;have ih:=J0 k x r h2 k' x';simp only[putR];by_cases hl:lessP e.1 k=true
  ·rw[Af hl,A3,ih,A3];have hne:e.1≠k:=λe1=>by rw[e1,Db]at hl;cases hl
   constructor
   ·rintro(q|q|q)
    ·exact .inr ⟨by rw[<-q]at hne;exact hne, .inl q⟩
    ·exact .inl q
    ·exact .inr ⟨q.1, .inr q.2⟩
   ·rintro(q|⟨q1,q2|q2⟩)
    ·exact .inr (.inl q)
    ·exact .inl q2
    ·exact .inr (.inr ⟨q1,q2⟩)
  ·rw[Ad hl];by_cases e1:e.1=k
   ·rw[Af e1,A3,A3,CD];constructor
    ·rintro(q|q)
     ·exact .inl q
     ·refine .inr ⟨λe2=>?_, .inr q⟩;have:=h1 _ q;rw[e1,e2,Db]at this;cases this
    ·rintro(q|⟨q1,q2|q2⟩)
     ·exact .inl q
     ·exact absurd (by rw[<-e1,<-q2]) q1
     ·exact .inr q2
   ·rw[Ad e1,A3,A3,CD];constructor
    ·rintro(q|q)
     ·exact .inl q
     ·refine .inr ⟨λe2=>?_,q⟩;have hke:=FQ e.1 k e1 (by simpa using hl);rcases q with q|q
      ·exact e1 (by rw[<-q];exact e2)
      ·have:=D1 _ _ _ hke (h1 _ q);rw[e2,Db]at this;cases this
    ·rintro(q|⟨q1,q2⟩)
     ·exact .inl q
     ·exact .inr q2
theorem Pz(k x:List Int):∀l:PList,SrtP l->SrtP (putR k x l)
 |[],_=>by simp[putR,SrtP]
 |e::r,h=>by
  obtain⟨h1,h2⟩:=Be.1 h;simp only[putR];by_cases hl:lessP e.1 k=true
  ·rw[Af hl];refine Be.2 ⟨λf hf=>?_,Pz k x r h2⟩;obtain⟨f1,f2⟩:=f;rcases(J0 k x r h2 f1 f2).1 hf with q|q
   ·rw[q.1];exact hl
   ·exact h1 _ q.2
  ·rw[Ad hl];by_cases e1:e.1=k
   ·rw[Af e1];exact Be.2 ⟨λf hf=>by have:=h1 f hf;rw[e1]at this;exact this,h2⟩
   ·rw[Ad e1];have hke:=FQ e.1 k e1 (by simpa using hl);refine Be.2 ⟨λf hf=>?_,h⟩;rcases A3.1 hf with q|q
    ·rw[q];exact hke
    ·exact D1 _ _ _ hke (h1 f q)
theorem J1(k:List Int):∀l:PList,SrtP l->∀k' x',(k',x')∈delR k l↔(k'≠k/\(k',x')∈l)
 |[],_,k',x'=>by simp[delR]
 |e::r,h,k',x'=>by
  obtain⟨h1,h2⟩:=Be.1 h;have ih:=J1 k r h2 k' x';simp only[delR];by_cases hl:lessP e.1 k=true
  ·have hne:e.1≠k:=λe1=>by rw[e1,Db]at hl;cases hl
   rw[Af hl,A3,ih,A3];constructor
   ·rintro(q|q)
    ·exact⟨by rw[<-q]at hne;exact hne, .inl q⟩
    ·exact⟨q.1, .inr q.2⟩
   ·rintro⟨q1,q2|q2⟩
    ·exact .inl q2
    ·exact .inr ⟨q1,q2⟩
  ·rw[Ad hl];by_cases e1:e.1=k
   ·rw[Af e1,A3];constructor
    ·intro q;refine⟨λe2=>?_, .inr q⟩;have:=h1 _ q;rw[e1,e2,Db]at this;cases this
    ·rintro⟨q1,q2|q2⟩
     ·exact absurd (by rw[<-e1,<-q2]) q1
     ·exact q2
   ·rw[Ad e1,A3];constructor
    ·intro q;refine⟨λe2=>?_,q⟩;have hke:=FQ e.1 k e1 (by simpa using hl);rcases q with q|q
     ·exact e1 (by rw[<-q];exact e2)
     ·have:=D1 _ _ _ hke (h1 _ q);rw[e2,Db]at this;cases this
    ·exact λq=>q.2
theorem Ww(k:List Int):∀l:PList,SrtP l->SrtP (delR k l):=by
 intro l
 induction l with
 |nil=>intro _;simp[delR,SrtP]
 |cons e r ih=>
  intro h;obtain⟨h1,h2⟩:=Be.1 h;simp only[delR];split
  ·refine Be.2 ⟨λf hf=>?_,ih h2⟩;obtain⟨f1,f2⟩:=f;exact h1 _ ((J1 k r h2 f1 f2).1 hf).2
  ·split
   ·exact h2
   ·exact h
theorem P2(k x:List Int):∀l:PList,(putR k x l).length<=l.length+1
 |[]=>by simp[putR]
 |e::r=>by
  have:=P2 k x r;simp only[putR];split
  ·simp;omega
  ·split<;>simp
end Go.Proofs.YtalhnnjpjaeakaaGreat
namespace Go.Proofs.YtalhnnjpjaeakaaGreat
open Tr
variable {w : World}
structure Opx where
 z:Int
 ka:Option Addr
 kn:Nat
 kc:Nat
 va:Option Addr
 vn:Nat
 vc:Nat
 k:List Int
 x:List Int
def Opx.cells(y:Opx):Array Value:=#[.int .i64 y.z, .slice y.ka y.kn y.kc, .slice y.va y.vn y.vc]
def An:Nat->Prop:=λ_=>True
structure OAt(w:World)(a:Option Addr)(n:Nat)(xs:List Opx):Prop where
 len:xs.length=n
 row:∀j y,xs[j]?=some y->∃g off,a=some ⟨g,off,none⟩/\w.rangeAt g (off+j*3) y.cells.toList
 k:∀y∈xs,Ag w y.ka y.kn y.kc y.k
 x:∀y∈xs,Ag w y.va y.vn y.vc y.x
theorem Ag.an{a:Option Addr}{n c:Nat}{bs:List Int}(h:Ag w a n c bs):Sk An w a n c bs:=⟨h,λ_ _ _=>trivial⟩
theorem QH{w':World}{g off:Nat}{cs:List Value}(h:w.rangeAt g off cs)(hb:Bl w w'):w'.rangeAt g off cs:=λj v hj=>(hb.cell (p:=⟨g,off+j,none⟩) (Aj (h j v hj))).trans (h j v hj)
end Go.Proofs.YtalhnnjpjaeakaaGreat
namespace Go.Proofs.YtalhnnjpjaeakaaGreat
open Tr
open Ni (lessP)
variable {k x q : List Int}
structure Rel(t:Tr)(l:PList):Prop where
 s:SrtP l
 m:∀k x,(k,x)∈l↔(Byk k/\k.length<=32/\x≠[]/\Tr.get t (Ni.nib k)=x)
 e:∀p,Nb p->Tr.get t p≠[]->∃k,Byk k/\k.length<=32/\p=Ni.nib k
 v:∀k x,(k,x)∈l->x.length<=256
 ok:t=no∨Tr.Ok 64 t
def putL(l:PList)(k x:List Int):PList:=if k.length<=32/\0<x.length/\x.length<=256 then putR k x l else l
def delL(l:PList)(k:List Int):PList:=if k.length<=32 then delR k l else l
theorem Rel.nil:Rel no []:=⟨by simp[SrtP],λk x=>⟨λh=>by simp at h,λh=>absurd h.2.2.2.symm h.2.2.1⟩,λp _ h=>absurd rfl h,(λk x h=>by simp at h), .inl rfl⟩
theorem Gg(h:Byk k):Nb (Ni.nib k):=Lm h
theorem Yq{t:Tr}(h:t=no∨Tr.Ok 64 t)(hk:Byk k):putT t k x=no∨Tr.Ok 64 (putT t k x):=by
 unfold putT;split
 ·rename_i hc;exact .inr (NJ t 64 _ _ h (Gg hk) (by rw[Ni.nib_len];omega) (λe=>by rw[e]at hc;simp at hc))
 ·exact h
theorem Yr{t:Tr}(h:t=no∨Tr.Ok 64 t)(hk:Byk k):delT t k=no∨Tr.Ok 64 (delT t k):=by
 unfold delT;split
 ·rename_i hc;rcases h with rfl|h
  ·exact absurd rfl hc.2
  ·exact(NK t 64 _ h (Gg hk) hc.2).1
 ·exact h
theorem J2{t:Tr}(h:t=no∨Tr.Ok 64 t)(hk:Byk k)(hq:Nb q):Tr.get (putT t k x) q=if(k.length<=32/\0<x.length/\x.length<=256)/\q=Ni.nib k then x else Tr.get t q:=by
 unfold putT;split
 ·rename_i hc;rw[X1 t 64 _ _ _ h (Gg hk) hq];by_cases e:q=Ni.nib k
  ·rw[Af e,Af ⟨hc,e⟩]
  ·rw[Ad e,Ad (λz=>e z.2)]
 ·rename_i hc;rw[Ad (λz=>hc z.1)]
theorem LN{t:Tr}(h:t=no∨Tr.Ok 64 t)(hk:Byk k)(hq:Nb q):Tr.get (delT t k) q=if k.length<=32/\q=Ni.nib k then[]else Tr.get t q:=by
 unfold delT;split
 ·rename_i hc;rcases h with rfl|h
  ·exact absurd rfl hc.2
  ·rw[X4 t 64 _ _ h (Gg hk) hq hc.2];by_cases e:q=Ni.nib k
   ·rw[Af e,Af ⟨hc.1,e⟩]
   ·rw[Ad e,Ad (λz=>e z.2)]
 ·rename_i hc;by_cases e:k.length<=32/\q=Ni.nib k
  ·rw[Af e,e.2];by_cases hg:Tr.get t (Ni.nib k)=[]
   ·exact hg
   ·exact absurd ⟨e.1,hg⟩ hc
  ·rw[Ad e]
theorem KS{a b:List Int}(h:Ni.nib a=Ni.nib b):a=b:=by rw[<-Ni.kk_nib a,h,Ni.kk_nib]
theorem Rel.put{t:Tr}{l:PList}(h:Rel t l)(hk:Byk k):Rel (putT t k x) (putL l k x):=by
 by_cases hc:k.length<=32/\0<x.length/\x.length<=256
 ·have el:putL l k x=putR k x l:=Af hc;have hx:x≠[]:=λe=>by rw[e]at hc;simp at hc
  rw[el];refine⟨Pz k x l h.s,λk' x'=>?_,λp hp hg=>?_,λk' x' hm=>?_,Yq h.ok hk⟩
  ·rw[J0 k x l h.s];constructor
   ·rintro(⟨rfl,rfl⟩|⟨q1,q2⟩)
    ·exact⟨hk,hc.1,hx,by rw[J2 h.ok hk (Gg hk),Af ⟨hc,rfl⟩]⟩
    ·obtain⟨h1,h2,h3,h4⟩:=(h.m k' x').1 q2;exact⟨h1,h2,h3,by rw[J2 h.ok hk (Gg h1),Ad (λz=>q1 (KS z.2))];exact h4⟩
   ·rintro⟨h1,h2,h3,h4⟩;rw[J2 h.ok hk (Gg h1)]at h4;by_cases e:k'=k
    ·subst e;rw[Af ⟨hc,rfl⟩]at h4;exact .inl ⟨rfl,h4.symm⟩
    ·rw[Ad (λz=>e (KS z.2))]at h4;exact .inr ⟨e,(h.m k' x').2 ⟨h1,h2,h3,h4⟩⟩
  ·rw[J2 h.ok hk hp]at hg;by_cases e:p=Ni.nib k
   ·exact⟨k,hk,hc.1,e⟩
   ·rw[Ad (λz=>e z.2)]at hg;exact h.e p hp hg
  ·rcases(J0 k x l h.s k' x').1 hm with q|q
   ·rw[q.2];exact hc.2.2
   ·exact h.v k' x' q.2
 ·have e1:putL l k x=l:=Ad hc;have e2:putT t k x=t:=Ad hc;rw[e1,e2];exact h
theorem Rel.isAt{t:Tr}{l:PList}(h:Rel t l)(hk:Byk k)(hl:k.length<=32):isAt k l=decide (Tr.get t (Ni.nib k)≠[]):=by
 by_cases hg:Tr.get t (Ni.nib k)=[]
 ·rw[AT (λz=>z hg)];cases hq:Go.Proofs.YtalhnnjpjaeakaaGreat.isAt k l with
  |false=>rfl
  |true=>
   obtain⟨x,hx⟩:=(LM k l h.s).1 hq;obtain⟨_,_,h3,h4⟩:=(h.m k x).1 hx;rw[hg]at h4;exact absurd h4.symm h3
 ·rw[AU hg];exact(LM k l h.s).2 ⟨_,(h.m k _).2 ⟨hk,hl,hg,rfl⟩⟩
theorem Rel.del{t:Tr}{l:PList}(h:Rel t l)(hk:Byk k):Rel (delT t k) (delL l k):=by
 by_cases hc:k.length<=32
 ·have el:delL l k=delR k l:=Af hc;rw[el];refine⟨Ww k l h.s,λk' x'=>?_,λp hp hg=>?_,λk' x' hm=>h.v k' x' ((J1 k l h.s k' x').1 hm).2,Yr h.ok hk⟩
  ·rw[J1 k l h.s];constructor
   ·rintro⟨q1,q2⟩;obtain⟨h1,h2,h3,h4⟩:=(h.m k' x').1 q2;exact⟨h1,h2,h3,by rw[LN h.ok hk (Gg h1),Ad (λz=>q1 (KS z.2))];exact h4⟩
   ·rintro⟨h1,h2,h3,h4⟩;rw[LN h.ok hk (Gg h1)]at h4;by_cases e:k'=k
    ·subst e;rw[Af ⟨hc,rfl⟩]at h4;exact absurd h4.symm h3
    ·rw[Ad (λz=>e (KS z.2))]at h4;exact⟨e,(h.m k' x').2 ⟨h1,h2,h3,h4⟩⟩
  ·rw[LN h.ok hk hp]at hg;by_cases e:p=Ni.nib k
   ·rw[Af ⟨hc,e⟩]at hg;exact absurd rfl hg
   ·rw[Ad (λz=>e z.2)]at hg;exact h.e p hp hg
 ·have e1:delL l k=l:=Ad hc;have e2:delT t k=t:=Ad (λz=>hc z.1);rw[e1,e2];exact h
theorem Rel.ents{t:Tr}{l:PList}(h:Rel t l):entsF [] t=l:=by
 rcases h.ok with rfl|hO
 ·rw[show entsF [] no=[]from rfl];cases l with
  |nil=>rfl
  |cons e r=>
   obtain⟨k,x⟩:=e;obtain⟨_,_,h3,h4⟩:=(h.m k x).1 (by simp);exact absurd h4.symm h3
 ·have hkey:∀p x,(p,x)∈entsR t->∃k,Byk k/\k.length<=32/\p=Ni.nib k/\(Ni.keyP p).1=k:=by
   intro p x hm;obtain⟨h1,h2,h3⟩:=(Jz t hO p x).1 hm;obtain⟨k,k1,k2,k3⟩:=h.e p h1 (by rw[h2];exact h3);exact⟨k,k1,k2,k3,by rw[k3,Ni.key_nib k1]⟩
  rw[Py];refine Nd _ _ ?_ h.s (λy=>?_)
  ·unfold SrtP;rw[Eo];refine List.Pairwise.imp_of_mem ?_ (Wv t);rintro⟨p,x⟩⟨p',x'⟩ hm hm' hl;obtain⟨k,_,_,k3,k4⟩:=hkey p x hm;obtain⟨k',_,_,k3',k4'⟩:=hkey p' x' hm';show lessP (Ni.keyP ([]++p)).1 (Ni.keyP ([]++p')).1=true;rw[A6,A6,k4,k4',<-Ni.less_nib,<-k3,<-k3'];exact hl
  ·obtain⟨k,x⟩:=y;constructor
   ·intro hm;obtain⟨⟨p,x'⟩,hm',he⟩:=BE.1 hm;obtain⟨k',k1,k2,k3,k4⟩:=hkey p x' hm';obtain⟨h1,h2,h3⟩:=(Jz t hO p x').1 hm';simp only[A6,k4,CD]at he;obtain⟨rfl,rfl⟩:=he;exact(h.m k' x').2 ⟨k1,k2,h3,by rw[<-k3];exact h2⟩
   ·intro hm;obtain⟨k1,k2,h3,h4⟩:=(h.m k x).1 hm;refine BE.2 ⟨(Ni.nib k,x),(Jz t hO _ _).2 ⟨Gg k1,h4,h3⟩,?_⟩;simp only[A6,Ni.key_nib k1]
theorem Wx(l:PList)(k x:List Int):(putL l k x).length<=l.length+1:=by
 unfold putL;split
 ·exact P2 k x l
 ·omega
def Sup(u:Tr)(A:List Int->Prop):Prop:=∀q,Nb q->Tr.get u q≠[]->∃k,A k/\Byk k/\k.length<=32/\q=Ni.nib k
end Go.Proofs.YtalhnnjpjaeakaaGreat
namespace Go.Proofs.YtalhnnjpjaeakaaGreat
open Tr
variable {K K' X : Nat → Prop} {w w' : World} {p : Value × Value} {base m c g n : Nat} {a : Option Addr} {vs' vs : List (Value × Value)} {l' : PList}
def flatP(vs:List (Value×Value)):List Value:=vs.flatMap λp=>[p.1,p.2]
theorem DP:∀vs:List (Value×Value),(flatP vs).length=vs.length*2
 |[]=>rfl
 |p::r=>by have:=DP r;simp only[flatP,Cm,Ab,AP,Ch]at this⊢;omega
theorem JP(a b:List (Value×Value)):flatP (a++b)=flatP a++flatP b:=by simp[flatP]
theorem LO:∀(vs:List (Value×Value))(m:Nat),flatP (vs.drop m)=(flatP vs).drop (m*2)
 |[],m=>by simp[flatP]
 |p::r,0=>by simp
 |p::r,m+1=>by
  rw[E6,LO r m,show(m+1)*2=m*2+1+1 from by omega];simp[flatP]
theorem LP:∀(vs:List (Value×Value))(m:Nat),flatP (vs.take m)=(flatP vs).take (m*2)
 |[],m=>by simp[flatP]
 |p::r,0=>by simp[flatP]
 |p::r,m+1=>by
  have ih:=LP r m;rw[C1,show(m+1)*2=m*2+1+1 from by omega];simp only[flatP,Cm,Ca,A6,C1]at ih⊢;rw[ih]
theorem Ng:∀(vs:List (Value×Value))(j:Nat)(p:Value×Value),vs[j]?=some p->(flatP vs)[j*2]?=some p.1/\(flatP vs)[j*2+1]?=some p.2
 |[],j,p,h=>by simp at h
 |q::r,0,p,h=>by simp at h;subst h;simp[flatP]
 |q::r,j+1,p,h=>by
  have:=Ng r j p (by simpa using h);rw[show(j+1)*2=j*2+1+1 from by omega];simpa[flatP]using this
theorem Nh(y:Addr)(k:Nat):(y.add k).block=y.block:=by
 unfold Addr.add;split<;>rfl
def Gp2(K:Nat->Prop)(w:World)(p:Value×Value)(e:List Int×List Int):Prop:=∃a n c a' n' c',p.1= .slice a n c/\p.2= .slice a' n' c'/\Sk K w a n c e.1/\Sk K w a' n' c' e.2
theorem Gp2.mono{e:List Int×List Int}(h:Gp2 K w p e)(hK:∀b,K b->K' b):Gp2 K' w p e:=by
 obtain⟨a,n,c,a',n',c',h1,h2,h3,h4⟩:=h;exact⟨a,n,c,a',n',c',h1,h2,h3.mono hK,h4.mono hK⟩
theorem Gp2.go{e:List Int×List Int}(h:Gp2 K w p e)(hb:Below w.heap.size w w'):Gp2 K w' p e:=by
 obtain⟨a,n,c,a',n',c',h1,h2,h3,h4⟩:=h;exact⟨a,n,c,a',n',c',h1,h2,h3.go hb,h4.go hb⟩
structure PAt(K:Nat->Prop)(w:World)(a:Option Addr)(n c:Nat)(vs:List (Value×Value))(l:PList):Prop where
 vl:vs.length=n
 ll:l.length=n
 nc:n<=c
 nil:a=none->n=0/\c=0
 row:∀j u,(flatP vs)[j]?=some u->∃g off,a=some ⟨g,off,none⟩/\w.cell? ⟨g,off+j,none⟩=some u
 gd:∀(j:Nat)(p:Value×Value)(e:List Int×List Int),vs[j]?=some p->l[j]?=some e->Gp2 K w p e
 rk:∀x,a=some x->0<n->K x.block
section
variable {K : Nat → Prop} {w w' : World} {a : Option Addr} {n c : Nat} {vs : List (Value × Value)} {l : PList}
theorem PAt.go(h:PAt K w a n c vs l)(hb:Below w.heap.size w w'):PAt K w' a n c vs l:=⟨h.vl,h.ll,h.nc,h.nil,λj u hj=>by
 obtain⟨g,off,h1,h2⟩:=h.row j u hj;exact⟨g,off,h1,(hb.cell (p:=⟨g,off+j,none⟩) (Aj h2)).trans h2⟩,λj p e h1 h2=>(h.gd j p e h1 h2).go hb,h.rk⟩
theorem PAt.empty(K:Nat->Prop)(w:World):PAt K w none 0 0 [] []:=⟨rfl,rfl,Aa _,λ_=>⟨rfl,rfl⟩,(λj u h=>by simp[flatP]at h),(λj p e h=>by simp at h),λx hx=>by cases hx⟩
theorem PAt.mono{K':Nat->Prop}(h:PAt K w a n c vs l)(hK:∀b,K b->K' b):PAt K' w a n c vs l:=⟨h.vl,h.ll,h.nc,h.nil,h.row,λj p e h1 h2=>(h.gd j p e h1 h2).mono hK,λx hx hn=>hK _ (h.rk x hx hn)⟩
theorem PAt.old(h:PAt K w a n c vs l):PAt (λb=>K b/\b<w.heap.size) w a n c vs l:=⟨h.vl,h.ll,h.nc,h.nil,h.row,λj p e h1 h2=>by
 obtain⟨a,n,c,a',n',c',q1,q2,q3,q4⟩:=h.gd j p e h1 h2;exact⟨a,n,c,a',n',c',q1,q2,⟨q3.ag,λx hx hn=>⟨q3.k x hx hn,q3.old hx hn⟩⟩,⟨q4.ag,λx hx hn=>⟨q4.k x hx hn,q4.old hx hn⟩⟩⟩,λx hx hn=>by
 refine⟨h.rk x hx hn,?_⟩;obtain⟨u,hu⟩:∃u,(flatP vs)[0]?=some u:=⟨_,Ac (by rw[DP,h.vl];omega)⟩;obtain⟨g,off,e1,e2⟩:=h.row 0 u hu;rw[hx]at e1;cases e1;exact Aj e2⟩
theorem PAt.cutFrom(h:PAt K w a n c vs l)(f:Nat)(hf:f<=n):
 ∃a' n' c',(∀(v:World)(ρ:Operand->Value)(o:Oper)(x y:Operand),o.op= .slice 26 x (some y) none none->ρ x= .slice a n c->ρ y= .int .i64 (f:Int)->(execOp ρ o).run prog v= .ok (.value (.slice a' n' c')) v)/\PAt K w a' n' c' (vs.drop f) (l.drop f):=by
 have hnc:=h.nc;refine⟨if c=f then a else a.map (·.add (f*2)),n-f,c-f,?_,?_⟩
 ·intro v ρ o x y ho hx hy;unfold execOp;rw[ho];simp[hx,hy,Instr.sliceAt,B7 underlying26,Instr.slice,Instr.sliceBounds,Instr.sliceBound,asIntOf,hf,Result.andThen]
 ·refine⟨by rw[AQ,h.vl],by rw[AQ,h.ll],by omega,λe=>?_,λj u hj=>?_,λj p e h1 h2=>h.gd (f+j) p e (by rw[<-C9];exact h1) (by rw[<-C9];exact h2),λx hx hn=>?_⟩
  ·have:a=none:=by
    by_cases hc:c=f
    ·rw[Af hc]at e;exact e
    ·rw[Ad hc]at e;simpa using e
   have:=h.nil this;omega
  ·rw[LO,C9]at hj;obtain⟨g,off,h1,h2⟩:=h.row _ _ hj;have hlt:f*2+j<(flatP vs).length:=(Aw.1 hj).1;rw[DP,h.vl]at hlt;refine⟨g,off+f*2,?_,?_⟩
   ·rw[Ad (by omega),h1,BN,BM]
   ·rw[show off+f*2+j=off+(f*2+j)from by omega];exact h2
  ·rw[Ad (by omega)]at hx;cases a with
   |none=>cases hx
   |some y=>cases hx;show K (y.add _).block;rw[Nh];exact h.rk y rfl (by omega)
theorem PAt.cutTo(h:PAt K w a n c vs l)(f:Nat)(hf:f<=n):
 ∃a' n' c',(∀(v:World)(ρ:Operand->Value)(o:Oper)(x y:Operand),o.op= .slice 26 x none (some y) none->ρ x= .slice a n c->ρ y= .int .i64 (f:Int)->(execOp ρ o).run prog v= .ok (.value (.slice a' n' c')) v)/\PAt K w a' n' c' (vs.take f) (l.take f):=by
 have hnc:=h.nc;have hfc:f<=c:=by omega
 refine⟨if c=0 then a else a.map (·.add (0*2)),f,c,?_,?_⟩
 ·intro v ρ o x y ho hx hy;unfold execOp;rw[ho];simp[hx,hy,Instr.sliceAt,B7 underlying26,Instr.slice,Instr.sliceBounds,Instr.sliceBound,asIntOf,hfc,Result.andThen]
 ·have hlv:=h.vl;have hll:=h.ll;refine⟨by rw[Ap];omega,by rw[Ap];omega,by omega,λe=>?_,λj u hj=>?_,λj p e h1 h2=>?_,λx hx hn=>?_⟩
  ·have:a=none:=by
    by_cases hc:c=0
    ·rw[Af hc]at e;exact e
    ·rw[Ad hc]at e;simpa using e
   have:=h.nil this;omega
  ·rw[LP]at hj;have hlt:j<((flatP vs).take (f*2)).length:=(Aw.1 hj).1;rw[Ap,DP,h.vl]at hlt;rw[AO (by omega)]at hj;obtain⟨g,off,h1,h2⟩:=h.row _ _ hj;exact⟨g,off,by rw[Ad (by omega),h1,BN,BM];rfl,h2⟩
  ·have hj1:j<(vs.take f).length:=(Aw.1 h1).1;rw[Ap]at hj1;exact h.gd j p e (by rw[AO (by omega)]at h1;exact h1) (by rw[AO (by omega)]at h2;exact h2)
  ·rw[Ad (by omega)]at hx;cases a with
   |none=>cases hx
   |some y=>cases hx;show K (y.add _).block;rw[Nh];exact h.rk y rfl (by omega)
theorem PAt.at(h:PAt K w a n c vs l){j:Nat}(hj:j<n):∃g off a1 n1 c1 a2 n2 c2 k x,a=some ⟨g,off,none⟩/\l[j]?=some (k,x)/\w.cell? ⟨g,off+j*2,none⟩=some (.slice a1 n1 c1)/\w.cell? ⟨g,off+j*2+1,none⟩=some (.slice a2 n2 c2)/\Sk K w a1 n1 c1 k/\Sk K w a2 n2 c2 x:=by
 obtain⟨p,hp⟩:∃p,vs[j]?=some p:=⟨_,Ac (by rw[h.vl];exact hj)⟩;obtain⟨e,he⟩:∃e,l[j]?=some e:=⟨_,Ac (by rw[h.ll];exact hj)⟩;obtain⟨a1,n1,c1,a2,n2,c2,h1,h2,h3,h4⟩:=h.gd j p e hp he;obtain⟨f1,f2⟩:=Ng vs j p hp;obtain⟨g,off,e1,e2⟩:=h.row _ _ f1;obtain⟨g',off',e1',e2'⟩:=h.row _ _ f2;rw[e1]at e1';cases e1';exact⟨g,off,a1,n1,c1,a2,n2,c2,e.1,e.2,e1,he,by rw[e2,h1],by rw[CB,e2',h2],h3,h4⟩
end
def OwnL(X:Nat->Prop)(w:World)(base:Nat)(v:Value)(l:PList):Prop:=(∀b,base<=b->X b)/\∃vs:List (Value×Value),vs.length=l.length/\w.ownsRow base 45 2 v l.length (flatP vs)/\∀(j:Nat)(p:Value×Value)(e:List Int×List Int),vs[j]?=some p->l[j]?=some e->Gp2 (λb=>v.ownBlock≠some b/\X b) w p e
theorem OwnL.pat{v:Value}{l:PList}(h:OwnL X w base v l):∃a c vs,v= .slice a l.length c/\PAt X w a l.length c vs l:=by
 obtain⟨hX,vs,h1,⟨h2,h3⟩,h4⟩:=h;rcases h3 with⟨rfl,h5⟩|⟨g,cap,cur,rfl,hbg,hg,hc1,hc2,hc3,hc4⟩
 ·refine⟨none,0,vs,by rw[h5],h1,rfl,by omega,λ_=>⟨h5,rfl⟩,λj u hj=>?_,λj p e q1 q2=>(h4 j p e q1 q2).mono (λ_ h=>h.2),λx hx=>by cases hx⟩;have:vs=[]:=Ar (by omega);subst this;simp[flatP]at hj
 ·refine⟨some ⟨g,0,none⟩,cap,vs,rfl,h1,rfl,hc1,(λe=>by cases e),λj u hj=>⟨g,0,rfl,?_⟩,λj p e q1 q2=>(h4 j p e q1 q2).mono (λ_ h=>h.2),λx hx _=>by cases hx;exact hX _ hbg⟩;rw[Ae _ _ _ _ _ _ hg,AD];have hlt:j<(flatP vs).length:=(Aw.1 hj).1;rw[DP,h1]at hlt;rw[<-hc4,AO (by omega)]at hj;rw[<-BS];exact hj
theorem QI:∃i,prog.info? 45=some i/\i.zero=some (.agg #[.slice none 0 0, .slice none 0 0])/\i.size=2/\i.bytes=48:=by
 have h:(prog.info? 45).map (λi=>(i.zero,i.size,i.bytes))=some (some (.agg #[.slice none 0 0, .slice none 0 0]),2,48):=by kernel_rfl
 cases hq:prog.info? 45 with
 |none=>rw[hq]at h;simp at h
 |some i=>rw[hq]at h;simp at h;exact⟨i,rfl,h.1,h.2.1,h.2.2⟩
theorem OwnL.far{v:Value}{l:PList}(h:OwnL X w base v l)(hb:Below w.heap.size w w'):OwnL X w' base v l:=by
 obtain⟨hX,vs,h1,⟨h2,h3⟩,h4⟩:=h;refine⟨hX,vs,h1,⟨h2,?_⟩,λj p e q1 q2=>(h4 j p e q1 q2).go hb⟩;rcases h3 with q|⟨g,cap,cur,e1,e2,e3,e4⟩
 ·exact .inl q
 ·exact .inr ⟨g,cap,cur,e1,e2,(hb.block g (lt_of_get e3)).trans e3,e4⟩
theorem OwnL.own{v:Value}{l:PList}(h:OwnL X w base v l):∀k,v.ownBlock=some k->base<=k/\k<w.heap.size:=by
 obtain⟨hX,vs,h1,⟨h2,h3⟩,h4⟩:=h;intro k hk;rcases h3 with⟨rfl,_⟩|⟨g,cap,cur,rfl,hbg,hg,_⟩
 ·cases hk
 ·have e:g=k:=by simpa[Value.ownBlock]using hk
  subst e;exact⟨hbg,lt_of_get hg⟩
theorem Xa6{v:Value}{l:PList}(hown:OwnL X w base v l)(h:PAt K w a m c vs' l')(hK:∀b,K b->v.ownBlock≠some b/\X b)(hlen:l.length+m<=2900000000000)(hbase:base<=w.heap.size):
 ∃v' w',(∀ty,(Builtin.append_ #[26,26] ty #[v, .slice a m c]).run prog w= .ok v' w')/\OwnL X w' base v' (l++l')/\Below base w w'/\(∀k,k<w.heap.size->v.ownBlock≠some k->w'.heap[k]?=w.heap[k]?)/\(v'.ownBlock=v.ownBlock∨v'.ownBlock=some w.heap.size):=by
 obtain⟨i,hi,hz,hsz,hby⟩:=QI;have hOw:=hown.own;obtain⟨hX,vs,h1,h2,h4⟩:=id hown;cases a with
 |none=>
  obtain⟨rfl,rfl⟩:=h.nil rfl;have hn0:l'=[]:=Ar h.ll;subst hn0;exact⟨v,w,λty=>Eg w base 26 ty 45 i 2 underlying26 hi v _ _ h2,by rw[Az];exact hown,Ak _ _,λ_ _ _=>rfl, .inl rfl⟩
 |some ad=>
  have hc:∀j u,(flatP vs')[j]?=some u->w.cell? (ad.add j)=some u:=by
   intro j u hj;obtain⟨g,off,e1,e2⟩:=h.row j u hj;cases e1;rw[BM];exact e2
  have hone:∀u∈flatP vs',u.oneCell'=true:=by
   intro u hu;obtain⟨p,hp,hup⟩:=Cc.1 hu;obtain⟨j,hj,e⟩:=DH.1 hp;have hjl:j<l'.length:=(by rw[h.ll,<-h.vl];exact hj);obtain⟨a1,n1,c1,a2,n2,c2,q1,q2,_,_⟩:=h.gd j p l'[j] (by rw[Ac hj,e]) (Ac hjl);simp at hup;rcases hup with q|q
   ·rw[q,q1];rfl
   ·rw[q,q2];rfl
  obtain⟨v',w',r1,r2,r3,_,r5⟩:=run_append_own_at w base 26 0 45 i _ 2 48 underlying26 hi hz hsz hby rfl (by decide) v l.length (flatP vs) h2 ad m c (flatP vs') (by rw[DP,h.vl]) hc hone (by unfold maxLen;omega) (by omega) hbase;have hkeep:∀{K':Nat->Prop}{p:Value×Value}{e:List Int×List Int},(∀b,K' b->v.ownBlock≠some b/\X b)->Gp2 K' w p e->Gp2 (λb=>v'.ownBlock≠some b/\X b) w' p e:=by
   intro K' p e hK' hg;obtain⟨a1,n1,c1,a2,n2,c2,q1,q2,q3,q4⟩:=hg;have hsk:∀{a:Option Addr}{n c:Nat}{bs:List Int},Sk K' w a n c bs->Sk (λb=>v'.ownBlock≠some b/\X b) w' a n c bs:=by
    intro a n c bs hs;refine⟨⟨?_,hs.ag.nil,hs.ag.l,hs.ag.b⟩,λx hx hn=>?_⟩
    ·rcases hs.ag.i with q|⟨gb,off,q1,q2,q3,q4,q5,q7⟩
     ·exact .inl q
     ·refine .inr ⟨gb,off,q1,q2,q3,q4,q5,λj hj=>?_⟩;rw[<-q7 j hj];exact Aq (r3.block gb (Aj (q7 j hj)) (λe=>(hK' _ (hs.k _ q1 q3)).1 e.symm))
    ·refine⟨?_,(hK' _ (hs.k x hx hn)).2⟩;rcases r5 with q|q
     ·rw[q];exact(hK' _ (hs.k x hx hn)).1
     ·rw[q];intro e;have:=hs.old hx hn;simp at e;omega
   exact⟨a1,n1,c1,a2,n2,c2,q1,q2,hsk q3,hsk q4⟩
  refine⟨v',w',λty=>r1,⟨hX,vs++vs',by simp[h1,h.vl,h.ll],?_,?_⟩,?_,λk hk hn=>r3.block k hk (λe=>hn e.symm),r5⟩
  ·rw[Ab,h.ll,JP];exact r2
  ·intro j p e q1 q2;by_cases hj:j<vs.length
   ·rw[AV hj]at q1;rw[AV (by omega)]at q2;exact hkeep (λb hb=>hb) (h4 j p e q1 q2)
   ·rw[AY (by omega)]at q1;rw[AY (by omega),<-h1]at q2;exact hkeep hK (h.gd _ p e q1 q2)
  ·exact(Ak _ _).grown r3 hbase (λk hk=>(hOw k hk).1)
theorem P4{v:Value}{l:PList}(hown:OwnL X w base v l)(h:PAt K w a m c vs' l')(hK:∀b,K b->v.ownBlock≠some b/\X b)(hlen:l.length+m<=2900000000000)(hbase:base<=w.heap.size):
 ∃v' w',(∀ty,(Builtin.append_ #[26,26] ty #[v, .slice a m c]).run prog w= .ok v' w')/\OwnL X w' base v' (l++l')/\Below base w w':=by
 obtain⟨v',w',h1,h2,h3,_⟩:=Xa6 hown h hK hlen hbase;exact⟨v',w',h1,h2,h3⟩
theorem OwnL.new(h:New w w' g #[] 45)(hb:base<=w.heap.size)(hX:∀b,base<=b->X b):OwnL X w' base (.slice (some ⟨g,0,none⟩) 0 0) []:=⟨hX,[],rfl,⟨rfl, .inr ⟨g,0,#[],rfl,by rw[h.hg];exact hb,h.row,Aa _,by unfold maxLen;omega,rfl,rfl⟩⟩,λj p e q=>by simp at q⟩
theorem PAt.one{a':Option Addr}{n' c':Nat}{k x:List Int}(h:New w w' g #[.slice a n c, .slice a' n' c'] 45)(h1:Sk K w a n c k)(h2:Sk K w a' n' c' x)(hKg:K g):PAt K w' (some ⟨g,0,none⟩) 1 1 [(.slice a n c, .slice a' n' c')] [(k,x)]:=by
 refine⟨rfl,rfl,Aa _,(λe=>by cases e),λj u hj=>⟨g,0,rfl,?_⟩,(λj p e q1 q2=>?_),λx hx _=>by cases hx;exact hKg⟩
 ·rw[Ae _ _ _ _ _ _ h.row,AD]
  match j,hj with
  |0,hj=>exact hj
  |1,hj=>exact hj
  |j+2,hj=>simp[flatP]at hj
 ·match j,q1,q2 with
  |0,q1,q2=>
   simp at q1 q2;subst q1 q2;exact⟨a,n,c,a',n',c',rfl,rfl,h1.go h.below,h2.go h.below⟩
  |j+1,q1,_=>simp at q1
theorem Tri.noslice{t:Tr}(h:Tri K w g t)(o:Nat)(a:Option Addr)(n c:Nat):w.cell? ⟨g,o,none⟩≠some (.slice a n c):=by
 obtain⟨⟨v,h1,h2⟩,h3⟩:=h;rw[Ae _ _ _ _ _ _ h1];cases o with
 |zero=>
  intro e;simp at e;subst e;cases t with
  |no=>cases h2
  |leaf p x=>obtain⟨_,_,_,_,_,_,e,_⟩:=h2;cases e
  |ext p t=>obtain⟨_,_,_,_,e,_⟩:=h2;cases e
  |br k x=>obtain⟨_,_,_,_,e,_⟩:=h2;cases e
 |succ o=>simp
theorem PAt.touch{t:Tr}{l:PList}(h:PAt K w a n c vs l)(ht:Touch g w w')(hT:Tri K' w g t):PAt K w' a n c vs l:=by
 refine⟨h.vl,h.ll,h.nc,h.nil,λj u hj=>?_,λj p e h1 h2=>?_,h.rk⟩
 ·obtain⟨g',off,h1,h2⟩:=h.row j u hj;refine⟨g',off,h1,?_⟩;have hu:∃a n c,u= .slice a n c:=by
   have hlt:j<(flatP vs).length:=(Aw.1 hj).1;have hu:u∈flatP vs:=AK hj;obtain⟨p,hp,hup⟩:=Cc.1 hu;obtain⟨i,hi,e⟩:=DH.1 hp;have hjl:i<l.length:=(by rw[h.ll,<-h.vl];exact hi);obtain⟨a1,n1,c1,a2,n2,c2,q1,q2,_,_⟩:=h.gd i p l[i] (by rw[Ac hi,e]) (Ac hjl);simp at hup;rcases hup with q|q
   ·exact⟨_,_,_,q.trans q1⟩
   ·exact⟨_,_,_,q.trans q2⟩
  obtain⟨a1,n1,c1,rfl⟩:=hu;have hne:g'≠g:=λe=>by subst e;exact hT.noslice _ _ _ _ h2
  rw[<-h2];exact Aq (ht.block g' (Aj h2) hne)
 ·obtain⟨a1,n1,c1,a2,n2,c2,q1,q2,q3,q4⟩:=h.gd j p e h1 h2;exact⟨a1,n1,c1,a2,n2,c2,q1,q2,q3.touch ht hT,q4.touch ht hT⟩
theorem PAt.tou{l:PList}(h:PAt K w a n c vs l)(ht:Touch g w w')(hK:¬K g):PAt K w' a n c vs l:=by
 refine⟨h.vl,h.ll,h.nc,h.nil,λj u hj=>?_,λj p e h1 h2=>?_,h.rk⟩
 ·obtain⟨g',off,h1,h2⟩:=h.row j u hj;have hlt:j<(flatP vs).length:=(Aw.1 hj).1;rw[DP,h.vl]at hlt;have hk:=h.rk _ h1 (by omega);exact⟨g',off,h1,(Aq (a:=⟨g',off+j,none⟩) (ht.block g' (Aj h2) (λe=>hK (e▸hk)))).trans h2⟩
 ·obtain⟨a1,n1,c1,a2,n2,c2,q1,q2,q3,q4⟩:=h.gd j p e h1 h2;exact⟨a1,n1,c1,a2,n2,c2,q1,q2,q3.tou ht hK,q4.tou ht hK⟩
end Go.Proofs.YtalhnnjpjaeakaaGreat
