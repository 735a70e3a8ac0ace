/- The shelf's sort, laid at this program. -/
import Derived.Test.YtalhnnjpjaeakaaGreatAK
import Derived.Test.YtalhnnjpjaeakaaGreatProg
import Derived.Shelf.SlSortCmp.Whole1
import Derived.Ground.SlsfProg
import Derived.Test.YtalhnnjpjaeakaaGreatG23
import Derived.Test.YtalhnnjpjaeakaaGreatG01
import Derived.Test.YtalhnnjpjaeakaaGreatG17
import Derived.Test.YtalhnnjpjaeakaaGreatG16
import Derived.Test.YtalhnnjpjaeakaaGreatG12
set_option linter.unusedVariables false
set_option maxRecDepth 100000
set_option maxHeartbeats 4000000
open Go.Proofs.Tryz Go.RowKit
namespace Go.Proofs.YtalhnnjpjaeakaaGreat
open Go.Shelf
def sortB_ren:Go.Shelf.Ren:=⟨λ|6=>41|15=>61|14=>60|28=>94|29=>95|20=>86|21=>87|22=>88|23=>89|24=>90|25=>91|26=>92|27=>93|46=>120|47=>121|48=>122|49=>123|50=>124|57=>139|n=>n,λ|22=>41|24=>27|25=>84|3=>3|39=>100|0=>0|53=>153|55=>112|4=>4|46=>147|45=>146|50=>76|5=>5|9=>9|66=>169|70=>173|76=>187|77=>188|n=>n,λ|n=>n⟩
theorem XaD:Go.Proofs.SlLaysF.n6 prog sortB_ren:={
 mixed:=by kernel_rfl
 f6:=⟨f41.name,by decide,func41.trans (Av some (by kernel_rfl))⟩
 f14:=⟨f60.name,by decide,func60.trans (Av some (by kernel_rfl))⟩
 f15:=func61.trans (Av some (by kernel_rfl))
 f20:=⟨f86.name,by decide,func86.trans (Av some (by kernel_rfl))⟩
 f21:=⟨f87.name,by decide,func87.trans (Av some (by kernel_rfl))⟩
 f22:=⟨f88.name,by decide,func88.trans (Av some (by kernel_rfl))⟩
 f23:=⟨f89.name,by decide,func89.trans (Av some (by kernel_rfl))⟩
 f24:=⟨f90.name,by decide,func90.trans (Av some (by kernel_rfl))⟩
 f25:=⟨f91.name,by decide,func91.trans (Av some (by kernel_rfl))⟩
 f26:=⟨f92.name,by decide,func92.trans (Av some (by kernel_rfl))⟩
 f27:=⟨f93.name,by decide,func93.trans (Av some (by kernel_rfl))⟩
 f28:=func94.trans (Av some (by kernel_rfl))
 f29:=func95.trans (Av some (by kernel_rfl))
 f46:=⟨f120.name,by decide,func120.trans (Av some (by kernel_rfl))⟩
 f47:=func121.trans (Av some (by kernel_rfl))
 f48:=func122.trans (Av some (by kernel_rfl))
 f49:=⟨f123.name,by decide,func123.trans (Av some (by kernel_rfl))⟩
 f50:=⟨f124.name,by decide,func124.trans (Av some (by kernel_rfl))⟩
 f57:=⟨f139.name,by decide,func139.trans (Av some (by kernel_rfl))⟩
 t0:=underlying0
 a0:=isAgg0
 z0:=sizeOf0
 v0:=zeroValue0
 t3:=underlying3
 a3:=isAgg3
 z3:=sizeOf3
 v3:=zeroValue3
 t4:=underlying4
 a4:=isAgg4
 z4:=sizeOf4
 v4:=zeroValue4
 t5:=underlying5
 a5:=isAgg5
 z5:=sizeOf5
 v5:=zeroValue5
 t9:=underlying9
 a9:=isAgg9
 z9:=sizeOf9
 v9:=zeroValue9
 t22:=underlying41
 a22:=isAgg41
 z22:=sizeOf41
 v22:=zeroValue41
 a24:=isAgg27
 z24:=sizeOf27
 t25:=underlying84
 a25:=isAgg84
 z25:=sizeOf84
 v25:=zeroValue84
 t39:=underlying100
 a39:=isAgg100
 z39:=sizeOf100
 v39:=zeroValue100
 t45:=underlying146
 a45:=isAgg146
 z45:=sizeOf146
 v45:=zeroValue146
 t46:=underlying147
 a46:=isAgg147
 z46:=sizeOf147
 v46:=zeroValue147
 t50:=underlying76
 a50:=isAgg76
 z50:=sizeOf76
 v50:=zeroValue76
 t53:=underlying153
 a53:=isAgg153
 z53:=sizeOf153
 v53:=zeroValue153
 t55:=underlying112
 a55:=isAgg112
 z55:=sizeOf112
 v55:=zeroValue112
 t66:=underlying169
 a66:=isAgg169
 z66:=sizeOf169
 v66:=zeroValue169
 t70:=underlying173
 a70:=isAgg173
 z70:=sizeOf173
 v70:=zeroValue173
 t76:=underlying187
 a76:=isAgg187
 z76:=sizeOf187
 v76:=zeroValue187
 t77:=underlying188
 a77:=isAgg188
 z77:=sizeOf188
 v77:=zeroValue188}
end Go.Proofs.YtalhnnjpjaeakaaGreat
namespace Go.Proofs.YtalhnnjpjaeakaaGreat
open Go.RowKit Go.Proofs
open Go.Sort (Holds putRow putCells)
open Ni (lessP GM)
variable {K : Nat → Prop} {w : World} {α : Type}
abbrev Gp(K:Nat->Prop)(w:World):Type:={p:Value×List Int//Gd K w p}
def encQ{K:Nat->Prop}{w:World}(x:Gp K w):Value:=x.1.1
def ordQ{K:Nat->Prop}{w:World}(x y:Gp K w):Int:=cmpP x.1.2 y.1.2
theorem Lj(x y:Gp K w):Go.Proofs.ltOf ordQ x y=lessP x.1.2 y.1.2:=ZS _ _
theorem XaQ(K:Nat->Prop)(w:World):Sort.SWO (Go.Proofs.ltOf (ordQ (K:=K) (w:=w))):=⟨λx=>by rw[Lj];exact Db _,λx y z h1 h2=>by rw[Lj]at*;exact D6 _ _ _ h1 h2,λx y z h1 h2=>by
 rw[Lj]at*;cases hq:lessP x.1.2 z.1.2 with
 |false=>rfl
 |true=>
  by_cases e:x.1.2=y.1.2
  ·rw[e]at hq;rw[hq]at h2;cases h2
  ·have h3:=FR x.1.2 y.1.2 e h1;have h4:=D6 _ _ _ h3 hq;rw[h4]at h2;cases h2⟩
theorem M6(w:World)(b k:Nat)(f:Array Value->Array Value)(h:k≠b):(Sort.mapBlock w b f).heap[k]?=w.heap[k]?:=by
 unfold Sort.mapBlock;simp[Array.getElem?_modify,Ne.symm h]
theorem KL[Inhabited α](enc:α->Value)(w:World)(gb nn:Nat)(d:Array α)(os:Array Obj):Touch gb w (sortWorld enc w gb 0 nn d os):=by
 refine⟨rfl,rfl,rfl,?_,λk hk hne=>?_⟩
 ·simp[sortWorld,putRow,Sort.mapBlock,Sort.grow,Sort.ahead]
 ·show((putRow enc (Sort.ahead w nn) gb 0 d).heap++os)[k]?=w.heap[k]?;have hsz2:(putRow enc (Sort.ahead w nn) gb 0 d).heap.size=w.heap.size:=by simp[putRow,Sort.mapBlock,Sort.ahead]
  rw[D7 (by rw[hsz2];exact hk)];exact M6 (Sort.ahead w nn) gb k _ hne
theorem UL[Inhabited α](enc:α->Value)(w:World)(gb nn:Nat)(d:Array α)(os:Array Obj){cur:Array Value}{T:TypeId}(h:Rw gb w cur T):Rw gb (sortWorld enc w gb 0 nn d os) (putCells enc 0 d cur) T:=by
 show((putRow enc (Sort.ahead w nn) gb 0 d).heap++os)[gb]?=_;have hsz2:(putRow enc (Sort.ahead w nn) gb 0 d).heap.size=w.heap.size:=by simp[putRow,Sort.mapBlock,Sort.ahead]
 rw[D7 (by rw[hsz2];exact lt_of_get h)];unfold Rw at h;have h':(Sort.ahead w nn).heap[gb]?=some (.cells cur T (0,0)):=h;simp only[putRow,Sort.mapBlock,Array.getElem?_modify,h',BN,↓reduceIte];rfl
theorem RA {gb n cap : Nat} {ps : List (Value × List Int)} {cur : Array Value} (hr : Rw gb w cur 27) (hcur : cur.toList.take n = ps.map Prod.fst) (hsz : cur.size = cap) (hn : ps.length = n) (hle : n ≤ cap) (hg : ∀ p ∈ ps, Gd K w p) (hK : ¬ K gb) (h0 : 0 < n) (hb : n ≤ 7600000000002) :
    Calls Tryz.prog 41 #[.slice (some ⟨gb, 0, none⟩) n cap, .func (.func 42) #[] #[]] w fun e w' => ∃ u, e = .returned u ∧ (fun u w' => u = .tuple #[] ∧ (∃ (ps' : List (Value × List Int)) (cur' : Array Value), ps'.Perm ps ∧ ps'.Pairwise (fun p q => lessP q.2 p.2 = false) ∧ Rw gb w' cur' 27 ∧ cur'.toList.take n = ps'.map Prod.fst ∧ cur'.size = cap) ∧ Touch gb w w') u w' := by
  obtain ⟨xs, hxs⟩ : ∃ xs : List (Gp K w), xs.map Subtype.val = ps := ⟨ps.pmap Subtype.mk hg, by simp [List.map_pmap]⟩
  have hxl : xs.length = n := by rw [← hn, ← hxs, List.length_map]
  have x0 : Gp K w := xs[0]'(by omega)
  haveI : Inhabited (Gp K w) := ⟨x0⟩
  have hsx : xs.toArray.size = n := by simp [hxl]
  have hcell : ∀ j (hj : j < n), cur[j]? = some (encQ (xs[j]'(by omega))) := by
    intro j hj
    have := congrArg (fun l => l[j]?) hcur
    rw [← hxs] at this
    simp only [List.getElem?_take_of_lt hj, List.map_map, List.getElem?_map, Array.getElem?_toList, List.getElem?_eq_getElem (show j < xs.length by omega), Option.map_some] at this
    exact this
  have hH : Holds encQ w gb 0 xs.toArray := by
    intro j hj
    rw [hsx] at hj
    refine ⟨?_, frozen_of_row _ _ _ _ _ hr⟩
    rw [cell_of_row _ _ _ _ _ _ hr, Nat.zero_add, hcell j hj]
    have : xs.toArray[j]! = xs[j]'(by omega) := by simp [hxl, hj]
    rw [this]
  have hcon := Go.Proofs.Any.slices_SortFunc XaD (encQ (K := K) (w := w)) (fun x => by
      obtain ⟨⟨v, b⟩, a, m, c, e, hs⟩ := x
      show v.oneCell' = true
      rw [show v = .slice a m c from e]; rfl) ordQ (XaQ K w) 42 #[] gb 0 cap xs.toArray w (fun args w => by kernel_rfl)
    (fun mm os dk _ x y => by
      obtain ⟨⟨v, b⟩, a, m, c, e, hs⟩ := x
      obtain ⟨⟨v2, b2⟩, a2, m2, c2, e2, hs2⟩ := y
      have ht := KL (encQ (K := K) (w := w)) w gb mm dk os
      have h1 := W5 (hs.tou ht hK) (hs2.tou ht hK)
      have e : v = .slice a m c := e
      have e2 : v2 = .slice a2 m2 c2 := e2
      subst e e2
      refine (show Calls Tryz.prog 42 (#[.slice a m c, .slice a2 m2 c2] ++ #[]) _ _ from h1).mono ?_
      rintro e w' ⟨rfl, rfl⟩
      exact ⟨rfl, 0, #[], by simp [Sort.grow, World.drewN]⟩) hH (lt_of_get hr) (by rw [hsx]; omega)
  rw [hsx] at hcon
  refine (show Calls Tryz.prog 41 #[.slice (some ⟨gb, 0, none⟩) n cap, .func (.func 42) #[] #[]] w _ from hcon).mono ?_
  rintro e w' ⟨rfl, d', nn, os, hp, hs, rfl⟩
  have hps : d'.size = n := by rw [hp.1, hsx]
  refine ⟨_, rfl, rfl, ⟨d'.toList.map Subtype.val, putCells encQ 0 d' cur, ?_, ?_, UL _ _ _ _ _ _ hr, ?_, ?_⟩, KL _ _ _ _ _ _⟩
  · have := hp.2.2
    rw [show d'.extract 0 n = d' from by rw [← hps]; simp, show xs.toArray.extract 0 n = xs.toArray from by rw [← hsx]; simp] at this
    rw [← hxs]
    exact this.map _
  · rw [List.pairwise_map, List.pairwise_iff_getElem]
    intro i j hi hj hij
    simp at hi hj
    have h1 := hs i j (Nat.zero_le _) hij (by omega)
    rw [Lj] at h1
    simp only [hi, hj, getElem!_pos] at h1
    simpa using h1
  · apply List.ext_getElem?
    intro j
    by_cases hj : j < n
    · rw [List.getElem?_take_of_lt hj, Array.getElem?_toList]
      have hc : j < cur.size := by omega
      simp only [putCells, Array.getElem?_mapIdx, Array.getElem?_eq_getElem hc, Option.map_some, List.map_map, List.getElem?_map, Array.getElem?_toList]
      rw [if_pos ⟨Nat.zero_le _, by omega⟩, Nat.sub_zero, getElem!_pos d' j (by omega), Array.getElem?_eq_getElem (show j < d'.size by omega)]
      rfl
    · rw [List.getElem?_eq_none (by simp; omega), List.getElem?_eq_none (by simp; omega)]
  · simp [putCells, hsz]
end Go.Proofs.YtalhnnjpjaeakaaGreat
namespace Go.Proofs.YtalhnnjpjaeakaaGreat
open Tr
open Ni (lessP)
variable {M N M1 N' : List (List Int)} {w w' : World} {g gW n c i : Nat} {a : Option Addr} {b p q y : List Int} {K : Nat → Prop} {vs : List (Value × Value)}
def insB(b:List Int):List (List Int)->List (List Int)
 |[]=>[b]
 |x::r=>if b=x then x::r else if lessP b x then b::x::r else x::insB b r
theorem M7(b y:List Int):∀l:List (List Int),y∈insB b l↔y=b∨y∈l
 |[]=>by simp[insB]
 |x::r=>by
  have ih:=M7 b y r;simp only[insB];by_cases h:b=x
  ·subst h;rw[Af rfl];simp
  ·rw[Ad h];by_cases k:lessP b x=true
   ·rw[Af k];simp
   ·rw[Ad k];simp only[Az,ih];constructor
    ·rintro(q|q|q)
     ·exact .inr (.inl q)
     ·exact .inl q
     ·exact .inr (.inr q)
    ·rintro(q|q|q)
     ·exact .inr (.inl q)
     ·exact .inl q
     ·exact .inr (.inr q)
theorem Qj(b:List Int):∀l:List (List Int),SrtB l->SrtB (insB b l)
 |[],_=>by simp[insB,SrtB]
 |x::r,h=>by
  obtain⟨h1,h2⟩:=Be.1 h;simp only[insB];by_cases e:b=x
  ·rw[Af e];exact h
  ·rw[Ad e];by_cases k:lessP b x=true
   ·rw[Af k];refine Be.2 ⟨λy hy=>?_,h⟩;rcases Az.1 hy with q|q
    ·rw[q];exact k
    ·exact D6 _ _ _ k (h1 y q)
   ·rw[Ad k];refine Be.2 ⟨λy hy=>?_,Qj b r h2⟩;rcases(M7 b y r).1 hy with q|q
    ·rw[q];exact FR _ _ e (by simpa using k)
    ·exact h1 y q
def insAll(l:List (List Int))(M:List (List Int)):List (List Int):=M.foldl (λl b=>insB b l) l
theorem H9:∀(M l:List (List Int)),SrtB l->SrtB (insAll l M)/\∀y,y∈insAll l M↔y∈l∨y∈M
 |[],l,h=>⟨h,by simp[insAll]⟩
 |b::M,l,h=>by
  have ih:=H9 M (insB b l) (Qj b l h);refine⟨ih.1,λy=>?_⟩;rw[show insAll l (b::M)=insAll (insB b l) M from rfl,ih.2,M7,Az];constructor
  ·rintro((q|q)|q)
   ·exact .inr (.inl q)
   ·exact .inl q
   ·exact .inr (.inr q)
  ·rintro(q|q|q)
   ·exact .inl (.inr q)
   ·exact .inl (.inl q)
   ·exact .inr q
def nodesP(t:Tr):List (List Int):=if t.isNo then[]else insAll [] (nmd t++[encT t])
theorem Xk(hp:N.Perm M)(hs:N.Pairwise (λp q=>lessP q p=false)):dd N=insAll [] M:=by
 have h:=H9 M [] (by simp[SrtB]);refine JR _ _ (ZU _ hs) h.1 λx=>?_;rw[ZT,h.2,hp.mem_iff];simp
def Nf(w:World)(b:Nat):Prop:=b<w.heap.size/\∀o,w.frozen? ⟨b,o,none⟩=false
theorem Nf.touch{b:Nat}(h:Nf w b)(ht:Touch g w w')(hne:b≠g):Nf w' b:=⟨Bw h.1 ht.size,λo=>(B6 (w:=w) (a:=⟨b,o,none⟩) (ht.block b h.1 hne)).trans (h.2 o)⟩
theorem UM{X:Nat->Prop}{w0:World}{base:Nat}{vN:Value}{ns:List (List Int)}(hW:Wt w gW base vN X ns){gL:Nat}(hs:Sk (KW gW vN X) w a n c b)(hwq:Wq w a n)(hL:Rw gL w #[.slice a n c] 27)(hlen:ns.length+1<=7600000000000)(hB:Bl w0 w)(hb0:w0.heap.size<=base):
 ∃(gb cap:Nat)(cur:Array Value)(ps:List (Value×List Int))(w':World),(∀ty,(Builtin.append_ #[41,41] ty #[vN, .slice (some ⟨gL,0,none⟩) 1 1]).run prog w= .ok (.slice (some ⟨gb,0,none⟩) (ns.length+1) cap) w')/\Rw gb w' cur 27/\cur.toList.take (ns.length+1)=ps.map Prod.fst/\cur.size=cap/\ps.length=ns.length+1/\ns.length+1<=cap/\(∀p∈ps,Gd (λb=>b≠gb/\X b/\Nf w' b) w' p)/\ps.map Prod.snd=ns++[b]/\w0.heap.size<=gb/\Bl w0 w':=by
 obtain⟨i,hi,hz,hsz,hby⟩:=WH;have hlt:=hW.lt;have hbw:=hW.b;obtain⟨vals,hown,hvl,hvs⟩:=hW.o
 obtain⟨v',w',h1,h2,h3,h4,h5⟩:=GY w base 41 0 27 i (.slice none 0 0) 1 24 underlying41 hi hz hsz hby rfl (by decide) vN ns.length vals hown ⟨gL,0,none⟩ 1 1 [.slice a n c] rfl (λj u hu=>by
  cases j with
  |zero=>rw[BM,Ae _ _ _ _ _ _ hL];exact hu
  |succ j=>simp at hu) (λu hu=>by rw[DA.1 hu];rfl) (by decide) (by unfold maxLen;omega) (by omega) (by omega)
 obtain⟨hvl2,ho⟩:=h2;rcases ho with⟨e,hn⟩|⟨gb,cap,cur,rfl,hgb,hg,hc1,hc2,hc3,hc4⟩
 ·omega
 have hown0:∀k,vN.ownBlock=some k->w0.heap.size<=k:=by
  intro k hk;rcases hown.2 with⟨rfl,_⟩|⟨g',cap',cur',rfl,hg',_⟩
  ·cases hk
  ·have e:g'=k:=(by simpa[Value.ownBlock]using hk);omega
 have hgo:∀{a':Option Addr}{m' c':Nat}{x:List Int},Sk (KW gW vN X) w a' m' c' x->Wq w a' m'->Sk (λb=>b≠gb/\X b/\Nf w' b) w' a' m' c' x:=by
  intro a' m' c' x hx hq;refine⟨⟨?_,hx.ag.nil,hx.ag.l,hx.ag.b⟩,λy hy hn=>?_⟩
  ·rcases hx.ag.i with q|⟨g',off,q1,q2,q3,q4,q5,q7⟩
   ·exact .inl q
   ·refine .inr ⟨g',off,q1,q2,q3,q4,q5,λj hj=>?_⟩;rw[<-q7 j hj];have hk:=hx.k _ q1 q3;exact Aq (h3.block g' (Aj (q7 j hj)) (λe=>hk.2.1 e.symm))
  ·have hk:=hx.k y hy hn;refine⟨?_,hk.2.2,Bw (hx.old hy hn) h3.size,λo=>(B6 (w:=w) (a:=⟨y.block,o,none⟩) (h3.block y.block (hx.old hy hn) (λe=>hk.2.1 e.symm))).trans (hq y hy hn o)⟩;intro e;rcases h5 with q|q
   ·exact hk.2.1 (by rw[<-q,e];rfl)
   ·have h6:=hx.old hy hn;have h7:gb=w.heap.size:=(by simpa[Value.ownBlock]using q);omega
 have hz2:∀p∈(vals++[Value.slice a n c]).zip (ns++[b]),Gd (λb=>b≠gb/\X b/\Nf w' b) w' p:=by
  intro p hp;obtain⟨j,hj,e⟩:=DJ.1 hp;rw[List.getElem_zip]at e;subst e;simp only[List.length_zip,Ab,C3]at hj;by_cases hjl:j<vals.length
  ·obtain⟨a1,n1,c1,e1,hs1,hw1⟩:=hvs j vals[j] (Ac hjl);refine⟨a1,n1,c1,?_,?_⟩
   ·show(vals++[Value.slice a n c])[j]=_;rw[List.getElem_append_left hjl];exact e1
   ·show Sk _ _ _ _ _ ((ns++[b])[j]'(by simp;omega));rw[List.getElem_append_left (by omega)];have:ns.getD j []=ns[j]'(by omega):=(by simp[List.getD,show j<ns.length by omega]);rw[<-this];exact hgo hs1 hw1
  ·obtain rfl:j=vals.length:=by omega
   refine⟨a,n,c,?_,?_⟩
   ·show(vals++[Value.slice a n c])[vals.length]=_;simp
   ·show Sk _ _ _ _ _ ((ns++[b])[vals.length]'(by simp;omega));have:(ns++[b])[vals.length]'(by simp;omega)=b:=(by simp[hvl]);rw[this];exact hgo hs hwq
 have hll:(vals++[Value.slice a n c]).length=(ns++[b]).length:=by simp[hvl]
 refine⟨gb,cap,cur,(vals++[Value.slice a n c]).zip (ns++[b]),w',λty=>h1,hg,?_,by rw[hc3,Ce],by simp[hvl],hc1,hz2,?_,?_,?_⟩
 ·rw[List.map_fst_zip (by omega),<-hc4,Ce]
 ·rw[List.map_snd_zip (by omega)]
 ·omega
 ·exact BY hB ⟨h3.os,h3.tape,h3.output,h3.size,λk hk=>h3.block k (Bw hk hB.size) (λe=>by have:=hown0 k e.symm;omega)⟩
theorem Wt.newX(X:Nat->Prop)(h:New w w' gW #[.slice none 0 0] 81):Wt w' gW gW (.slice none 0 0) X []:=⟨h.row,⟨[],⟨rfl, .inl ⟨rfl,rfl⟩⟩,rfl,λj v hj=>by simp at hj⟩,Aa _⟩
def RNoW(w:World)(t:Tr):Value->World->Prop:=λu w'=>(∃a n c,u= .slice a n c/\Bt (λb=>w.heap.size<=b/\(∀x,a=some x->b≠x.block)/\Nf w' b) w' a n (nodesP t)/\(∀x,a=some x->w.heap.size<=x.block)/\n<=7600000000000)/\Bl w w'
def RNo(w:World)(t:Tr):Value->World->Prop:=λu w'=>(∃a n c,u= .slice a n c/\Bt (λb=>w.heap.size<=b/\∀x,a=some x->b≠x.block) w' a n (nodesP t)/\(∀x,a=some x->w.heap.size<=x.block)/\n<=7600000000000)/\Bl w w'
theorem YS{w w':World}{v u r:Value}{ρ:Operand->Value}{o:Oper}(hr:∀ty,(Builtin.append_ #[41,41] ty #[v,u]).run prog w= .ok r w')(x y:Operand)(ho:o.op= .call {callee:= .builtin .append,args:=#[x,y],argTypes:=#[41,41]})(hx:ρ x=v)(hy:ρ y=u):(execOp ρ o).run prog w= .ok (.value r) w':=by
 unfold execOp;simp only[ho,resolve,invoke,builtin,Bm,Bp,AH,Ck,B9,C6,hx,hy,hr]
theorem Bt.mono{K':Nat->Prop}(h:Bt K w a n M)(hK:∀b,K b->K' b):Bt K' w a n M:=⟨h.len,λj hj=>by
 obtain⟨g,off,a',n',c',h1,h2,h3⟩:=h.row j hj;exact⟨g,off,a',n',c',h1,h2,h3.mono hK⟩⟩
theorem Xl(hr:Rw g w #[.nilIface] 67):
 Calls prog 20 #[.pointer (some ⟨g,0,none⟩)] w λe w'=>∃u,e= .returned u/\RNoW w no u w':=by
 have hB:=Bl.refl w;refine Dp func20 25<|Hl 11 hr 0 65 (.nilIface) ?_;exact Hr 11 (.slice none 0 0) ⟨_,rfl,⟨none,0,0,rfl,⟨rfl,λj hj=>by omega⟩,(λx hx=>by cases hx),by omega⟩,hB⟩
theorem UN{t:Tr}{T0:TypeId}{v0:Value}(hr:Rw g w #[.iface T0 v0] 67)(ht:TA K w t (.iface T0 v0))(hO:Tr.Ok 64 t)(hne:t≠no)(hM:(nmd t).length+1<=7600000000000):
 Calls prog 20 #[.pointer (some ⟨g,0,none⟩)] w λe w'=>∃u,e= .returned u/\RNoW w t u w':=by
 have hB:=Bl.refl w;refine Dp func20 25<|Hl 11 hr 0 65 (.iface T0 v0)<|Hn 8 #[.slice none 0 0] 81 ?_;intro wW gW hnW _;have hzW:=hB.size;have hgW:=hnW.hg;have hWt:=Wt.newX (λb=>w.heap.size<=b) hnW;replace hB:=hB.go hnW.below;have hBW:=hB;replace hr:=hr.go hnW.below;refine Hl 7 hr 0 65 (.iface T0 v0) ?_;replace ht:=ht.old.go hnW.below;refine Hc 0 (R:=REn wW gW gW (.slice none 0 0) (λb=>w.heap.size<=b) [] t) (OP hne (Tc t hO (by omega)) (ht.mono (K':=KW gW (.slice none 0 0) (λ_=>True)) (λb hb=>⟨by omega,by simp[Value.ownBlock],trivial⟩)) hWt (λb hb=>Al hBW.size hb) (by simpa using hM)) ?_;rintro _ u1⟨a2,n2,c2,vM,rfl,hs2,hW1,hG,hen,hq2⟩;replace hB:=hG.below hB (by omega) rfl;clear hr ht hWt;rw[A6]at hW1;replace hs2:Sk (KW gW vM (λb=>w.heap.size<=b)) u1 a2 n2 c2 (encT t):=hs2.mono (λb hb=>⟨hb.1,hb.2.1,Al hBW.size hb.2.2⟩);refine Hl 6 hW1.r 0 41 (vM)<|Ko 1 #[.slice a2 n2 c2] 27 1 ?_;intro wL gL hnL hL;replace hq2:=hq2.go hs2 hnL.below;replace hB:=hB.go hnL.below;replace hs2:=hs2.go hnL.below;replace hW1:=hW1.go hnL.below;obtain⟨gb,cap,cur,ps,wA,hrun,hrA,hcA,hszA,hlA,hleA,hgA,hsnd,hgb,hBA⟩:=UM hW1 hs2 hq2 hL hM hB (by omega);refine Hx 0 (og f20 5 4) (.slice (some ⟨gb,0,none⟩) ((nmd t).length+1) cap) (λ_=>YS hrun _ _ rfl (by kernel_rfl) (by kernel_rfl)) ?_;clear hB hs2 hW1 hL;refine Hc 6 (R:=λu w'=>u= .tuple #[]/\(∃(ps':List (Value×List Int))(cur':Array Value),ps'.Perm ps/\ps'.Pairwise (λp q=>lessP q.2 p.2=false)/\Rw gb w' cur' 27/\cur'.toList.take ((nmd t).length+1)=ps'.map Prod.fst/\cur'.size=cap)/\Touch gb wA w') (RA hrA hcA hszA hlA hleA hgA (λh=>h.1 rfl) (by omega) (by omega)) ?_;rintro _ u2⟨rfl,⟨ps',cur',hperm,hpair,hrS,hcS,hszS⟩,hto⟩;have hgS:∀p∈ps',Gd (λb=>b≠gb/\w.heap.size<=b/\Nf wA b) u2 p:=λp hp=>(hgA p (hperm.mem_iff.1 hp)).tou hto (λh=>h.1 rfl);have hBS:Bl w u2:=hto.below hBA hgb hBA.size;refine Hc 5 (R:=λu w'=>∃k,u= .slice (some ⟨gb,0,none⟩) k cap/\Bt (λb=>b≠gb/\w.heap.size<=b/\Nf wA b) w' (some ⟨gb,0,none⟩) k (dd (ps'.map Prod.snd))/\Touch gb u2 w') (Qi hrS hcS hszS (by rw[hperm.length_eq,hlA]) hleA hgS (λh=>h.1 rfl) (by omega)) ?_;rintro _ u3⟨k3,rfl,hbt,hto3⟩;have hB3:Bl w u3:=hto3.below hBS hgb hBS.size;have hM2:dd (ps'.map Prod.snd)=nodesP t:=by
  rw[Xk (M:=nmd t++[encT t]) (by rw[<-hsnd];exact hperm.map _) (Eo.2 hpair)];unfold nodesP;rw[Ad (λe=>hne (isNo_iff.1 e))]
 have hk3:k3<=(nmd t).length+1:=by rw[<-hbt.len];refine Al (ZV _) ?_;rw[AY,hperm.length_eq,hlA];exact Aa _
 rw[hM2]at hbt;exact Hr 4 (.slice (some ⟨gb,0,none⟩) k3 cap) ⟨_,rfl,⟨_,_,_,rfl,hbt.mono (λb hb=>⟨hb.2.1,(λx hx=>by cases hx;exact hb.1),(hb.2.2.touch hto hb.1).touch hto3 hb.1⟩),(λx hx=>by cases hx;exact hgb),by omega⟩,hB3⟩
theorem M8{t:Tr}(h:Tri K w g t)(hM:(nmd t).length+1<=7600000000000):
 Calls prog 20 #[.pointer (some ⟨g,0,none⟩)] w λe w'=>∃u,e= .returned u/\RNoW w t u w':=by
 obtain⟨⟨v,h1,h2⟩,h3⟩:=h;rcases h3 with rfl|hO
 ·rw[show v= .nilIface from h2]at h1;exact Xl h1
 ·have hne:=hO.ne;obtain⟨T0,v0,rfl⟩:=h2.iface hne;exact UN h1 h2 hO hne hM
theorem UO{t:Tr}(h:Tri K w g t)(hM:(nmd t).length+1<=7600000000000):
 Calls prog 20 #[.pointer (some ⟨g,0,none⟩)] w λe w'=>∃u,e= .returned u/\RNo w t u w':=
 (M8 h hM).mono (λe w'⟨u,e1,⟨a,n,c,e2,e3,e4⟩,e5⟩=>⟨u,e1,⟨a,n,c,e2,e3.mono (λb hb=>⟨hb.1,hb.2.1⟩),e4⟩,e5⟩)
structure MB(M M' N:List (List Int)):Prop where
 s:SrtB M->SrtB M'
 m:∀x,x∈M'↔x∈M∨x∈N
 l:M'.length<=M.length+N.length
theorem MB.refl(M:List (List Int)):MB M M []:=⟨id,λx=>by simp,by simp⟩
theorem MB.trans{M2:List (List Int)}(h:MB M M1 N)(g:MB M1 M2 N'):MB M M2 (N++N'):=⟨λq=>g.s (h.s q),λx=>by rw[g.m,h.m,AM];exact or_assoc,by have:=h.l;have:=g.l;simp;omega⟩
theorem MB.ins(M:List (List Int))(b:List Int):MB M (insT M b) [b]:=⟨PK b M,λx=>by rw[J8];simp,WI M b⟩
def ownN(top:Bool)(t:Tr):List (List Int):=if top=true∨32<=(encT t).length then[encT t]else[]
def BelS(t:Tr):Prop:=∀(top:Bool){K:Nat->Prop}{w:World}{a0:Option Addr}{n0 c0:Nat}{M:List (List Int)}{a:Option Addr}{n c:Nat}{vs:List (Value×Value)},Bc (λ_=>True) w a0 n0 c0 M->(∀x,x∈M->x.length<=1000000)->M.length+(ownN top t).length+(nmd t).length<=7600000000000->PAt K w a n c vs (entsR t)->n<=2600000000000->(∀q y,(q,y)∈entsR t->q.length<=1000/\y.length<=256)->(∃B,Tr.Ok B t/\B<=64)->
 Calls prog 52 #[.slice a0 n0 c0, .slice a n c, .bool top] w λe w'=>∃u,e= .returned u/\(λu w'=>(∃a1 n1 c1 M1,u= .slice a1 n1 c1/\Bc (λ_=>True) w' a1 n1 c1 M1/\MB M M1 (ownN top t++nmd t)/\(∀x,x∈M1->x.length<=1000000))/\Bl w w') u w'
theorem MB.cong{M':List (List Int)}(h:MB M M' N)(hm:∀x,x∈N↔x∈N')(hl:N.length=N'.length):MB M M' N':=⟨h.s,λx=>by rw[h.m,hm],by have:=h.l;omega⟩
theorem UP{α:Type}(x:α)(A B C:List α):x∈A++(B++C)↔x∈A++(C++B):=by simp only[AM,or_comm (a:=x∈B)]
theorem FV(t:Tr):ownN false t=nm1 (encT t):=by
 unfold ownN nm1;by_cases h:(encT t).length<32
 ·rw[Af h,Ad (by simp;omega)]
 ·rw[Ad h,Af (by simp;omega)]
def nmK2(k:Nat->Tr)(i:Nat):List (List Int):=if(k i).isNo then[]else ownN false (k i)++nmd (k i)
def nmJ2(k:Nat->Tr)(j:Nat):List (List Int):=(List.range j).flatMap (nmK2 k)
theorem Kk(k:Nat->Tr)(j:Nat):nmJ2 k (j+1)=nmJ2 k j++nmK2 k j:=by simp[nmJ2,List.range_succ,List.flatMap_append]
theorem Qk(k:Nat->Tr)(j:Nat):(nmK2 k j).length=(nmK k j).length:=by
 unfold nmK2 nmK;split
 ·rfl
 ·rw[FV];simp;omega
theorem M9(k:Nat->Tr):∀j,(nmJ2 k j).length=(nmJ k j).length
 |0=>rfl
 |j+1=>by rw[Kk,G1,Ab,Ab,M9 k j,Qk]
theorem YT(k:Nat->Tr)(x:List Int)(y:List Int):y∈nmd (br k x)↔y∈nmJ2 k 16:=by
 simp only[nmd,nmJ2,Cd,DT,nmK2];constructor
 all_goals
  rintro⟨i,hi,h⟩;refine⟨i,hi,?_⟩
  revert h
  split
  ·exact id
  ·rw[FV];simp only[AM];exact Or.symm
theorem Td(k:Nat->Tr)(x:List Int):(nmd (br k x)).length=(nmJ k 16).length:=rfl
theorem YU(top:Bool)(t:Tr):(ownN top t).length<=1:=by unfold ownN;split<;>simp
theorem NN(h:∀x,x∈M->x.length<=1000000)(hb:b.length<=1000000):∀x,x∈insT M b->x.length<=1000000:=λx hx=>by
 rcases(J8 x b M).1 hx with q|q
 ·exact h x q
 ·rw[q];exact hb
theorem YV{c:Tr}{j:Nat}(h:(entsR (ext p c))[j]?=some (q,y)):p.length<=q.length:=by
 have:=AK h;simp only[entsR,BE]at this;obtain⟨e,_,he⟩:=this;cases he;simp
theorem YW(p:List Int)(c:Tr):(entsR (ext p c)).length=(entsR c).length:=by simp[entsR]
theorem UQ{c:Tr}(hv:∀q y,(q,y)∈entsR (ext p c)->q.length<=1000/\y.length<=256)(hq:(q,y)∈entsR c):q.length<=1000/\y.length<=256:=by
 have:=hv (p++q) y (by simp only[entsR,BE];exact⟨(q,y),hq,rfl⟩);rw[Ab]at this;omega
theorem Xm{k:Nat->Tr}{x:List Int}(hv:∀q y,(q,y)∈entsR (br k x)->q.length<=1000/\y.length<=256)(hi:i<16)(hq:(q,y)∈entsR (k i)):q.length<=1000/\y.length<=256:=by
 have:=hv ((i:Int)::q) y (by
  simp only[entsR,AM,Cd,DT,BE];exact .inr ⟨i,hi,(q,y),hq,rfl⟩)
 rw[AS]at this;omega
theorem YX(k:Nat->Tr)(x:List Int)(hi:i<16):(entsR (k i)).length<=(entsR (br k x)).length:=by
 rw[<-G0 k x hi];unfold underP
 induction entsR (br k x)with
 |nil=>simp
 |cons e r ih=>
  rw[Cn,Ab,AS];have:(under1 (i:Int) e).length<=1:=by unfold under1;split<;>(try split)<;>simp
  omega
theorem JF(t:Tr)(hE:∀p c,t=ext p c->BelS c)(hK:∀k x,t=br k x->∀i,k i≠no->BelS (k i)):BelS t:=by
 intro top K w a0 n0 c0 M a n c vs hM hlen hsz hl hn hv hO;have hB:=Bl.refl w;obtain⟨B,hO,hB64⟩:=hO;have ll:=hl.ll;have hl0:=hM;refine Dp func52 49<|Hc 8 (R:=RB7 w t) ((NL t B hO hB64 hv K w a n c vs hl hn)) ?_;rintro _ u1⟨⟨ab,mb,cb,rfl,hsb,hmb⟩,hb2⟩;have hbl:=hsb.len;refine Hk 4 (λe v=>∃a1 n1 c1 M1,e=[(0, .slice a1 n1 c1),(1, .slice a n c)]/\Bl w v/\Bc (λ_=>True) v a1 n1 c1 M1/\MB M M1 (ownN top t)/\(∀x,x∈M1->x.length<=1000000)) ?_ ?_
 ·intro I1 hJ1
  skip
  refine Hp 2 (.bool top)<|Hp 0 (.bool top) ?_;cases top with
  |true=>
   replace hB:=hB.go hb2;refine Hc 10 (R:=λu w'=>(∃a n c,u= .slice a n c/\Bc (λ_=>True) w' a n c (insT M (encT t)))/\Bl (u1) w') ((SQ (hl0.go hB) hsb hlen (by have:=hl0.bt.len;omega) (by omega))) ?_;rintro _ u3⟨⟨a1,n1,c1,rfl,hM1⟩,hb4⟩;replace hB:=hB.go hb4;exact hJ1 2 [(0, .slice a1 n1 c1),(1, .slice a n c)] ⟨_,_,_,_,rfl,hB,hM1,by unfold ownN;rw[Af (.inl rfl)];exact MB.ins _ _,NN hlen (by omega)⟩ (λ_=>by kernel_rfl)
  |false=>
   refine Hp 2 (.bool (decide ((mb:Int)>=(32:Int))))<|Hp 0 (.bool (decide ((mb:Int)>=(32:Int)))) ?_;by_cases h32:32<=mb
   ·skip
    rw[show(decide ((mb:Int)>=(32:Int)))=true from AT (by omega)];replace hB:=hB.go hb2;refine Hc 6 (R:=λu w'=>(∃a n c,u= .slice a n c/\Bc (λ_=>True) w' a n c (insT M (encT t)))/\Bl (u1) w') ((SQ (hl0.go hB) hsb hlen (by have:=hl0.bt.len;omega) (by omega))) ?_;rintro _ u5⟨⟨a1,n1,c1,rfl,hM1⟩,hb6⟩;replace hB:=hB.go hb6;exact hJ1 2 [(0, .slice a1 n1 c1),(1, .slice a n c)] ⟨_,_,_,_,rfl,hB,hM1,by unfold ownN;rw[Af (.inr (by omega))];exact MB.ins _ _,NN hlen (by omega)⟩ (λ_=>by kernel_rfl)
   ·skip
    rw[show(decide ((mb:Int)>=(32:Int)))=false from AU (by omega)];replace hB:=hB.go hb2;exact hJ1 4 [(0, .slice a0 n0 c0),(1, .slice a n c)] ⟨_,_,_,_,rfl,hB,hl0.go hB,by unfold ownN;rw[Ad (by simp;omega)];exact MB.refl _,hlen⟩ (λ_=>by kernel_rfl)
 replace hB:=hB.go hb2;rintro e v⟨a1,n1,c1,M1,rfl,hB,hM1,hMB,hlen1⟩;cases t with
 |no=>exact hO.elim
 |leaf p2 x2=>
  have hn1:n=1:=ll.symm;refine Hq 6 (n:Int) (1:Int) ?_;exact Hr 11 (.slice a1 n1 c1) ⟨_,rfl,⟨_,_,_,_,rfl,hM1,by simpa[nmd]using hMB,hlen1⟩,hB⟩
 |ext p c2=>
  have h2:=SS hO;have hp0:0<p.length:=BC.2 hO.2.1;refine Hz 6 (n:Int) (1:Int) ?_;refine Hc 8 (R:=λu w'=>u= .int .i64 ((alikeP (entsR (ext p c2)):Nat):Int)/\Bl (v) w') ((Iw (hl.go hB) hn (by omega) (λj q y h=>by have:=(hv q y (AK h)).1;omega))) ?_;rintro _ u7⟨rfl,hb8⟩;rw[N8 hO];refine Ht 7 (((p.length:Nat):Int)>(0:Int)) ?_;replace hB:=hB.go hb8;refine Hc 8 (R:=λu w'=>(∃a' m' c' vs',u= .slice a' m' c'/\PAt (λb=>K b∨(u7).heap.size<=b) w' a' m' c' vs' (withoutP p.length (entsR (ext p c2))))/\Bl (u7) w') ((KB (hl.go hB) hn (d:=p.length) (λj q y h=>YV h))) ?_;rintro _ u9⟨⟨a3,n3,c3,vs3,rfl,hP3⟩,hb10⟩;rw[KA]at hP3;replace hM1:=(hM1.go hb8).go hb10;refine Hc 0 (R:=λu w'=>(∃a5 n5 c5 M5,u= .slice a5 n5 c5/\Bc (λ_=>True) w' a5 n5 c5 M5/\MB M1 M5 (ownN false c2++nmd c2)/\(∀x,x∈M5->x.length<=1000000))/\Bl (u9) w') ((hE p c2 rfl false hM1 hlen1 (by have:=hMB.l;rw[FV];simp only[nmd,Ab]at hsz;omega) hP3 (by have:=hP3.ll;have h9:=ll;rw[YW]at h9;omega) (λq y hq=>UQ hv hq) ⟨B-p.length,hO.2.2.2.2,by omega⟩)) ?_;rintro _ u11⟨⟨a4,n4,c4,M4,rfl,hM4,hMB4,hlen4⟩,hb12⟩;replace hB:=(hB.go hb10).go hb12;exact Hr 5 (.slice a4 n4 c4) ⟨_,rfl,⟨_,_,_,_,rfl,hM4,(hMB.trans hMB4).cong (λx=>by rw[FV];exact UP x _ _ _) (by rw[FV];simp only[nmd,Ab];omega),hlen4⟩,hB⟩
 |br k2 x2=>
  have h2:=QW hO;refine Hz 6 (n:Int) (1:Int) ?_;refine Hc 8 (R:=λu w'=>u= .int .i64 ((alikeP (entsR (br k2 x2)):Nat):Int)/\Bl (v) w') ((Iw (hl.go hB) hn (by omega) (λj q y h=>by have:=(hv q y (AK h)).1;omega))) ?_;rintro _ u13⟨rfl,hb14⟩;rw[Mj hO];replace hB:=hB.go hb14;replace hM1:=hM1.go hb14;refine Ho (X:=Nat×Value) 20 (λz=>[(9, .int .i64 ((z.1:Nat):Int)),(0,z.2),(1, .slice a n c)]) (λz v=>Bl w v/\z.1<=16/\∃a1 n1 c1 M1,z.2= .slice a1 n1 c1/\Bc (λ_=>True) v a1 n1 c1 M1/\MB M M1 (ownN top (br k2 x2)++nmJ2 k2 z.1)/\(∀x,x∈M1->x.length<=1000000)) (λz=>16-z.1) (0, .slice a1 n1 c1) ⟨hB,Ay _,a1,n1,c1,M1,rfl,hM1,by simpa[nmJ2]using hMB,hlen1⟩ ?_;clear hB hM1 hMB hlen1;rintro⟨i,V⟩ v⟨hB,hi16,a1,n1,c1,M1,rfl,hM1,hMB,hlen1⟩ I2 hN2;dsimp only at hi16 hMB;by_cases hi:i<16
  ·skip
   refine Ht 4 ((i:Int)<(16:Int)) ?_;refine Hc 11 (R:=λu w'=>(∃a' m' c' vs',u= .slice a' m' c'/\PAt (λb=>K b∨(v).heap.size<=b) w' a' m' c' vs' (underP (i:Int) (entsR (br k2 x2))))/\Bl (v) w') ((Kc (hl.go hB) hn i hi)) ?_;rintro _ u15⟨⟨a3,n3,c3,vs3,rfl,hP3⟩,hb16⟩;rw[G0 _ _ hi]at hP3;have l3:=hP3.ll;refine Hp 7 (.bool (decide ((n3:Int)>(0:Int)))) ?_;by_cases hno:(k2 i).isNo=true
   ·skip
    have e0:k2 i=no:=isNo_iff.1 hno;have hz:n3=0:=(by rw[e0]at l3;exact l3.symm);rw[show(decide ((n3:Int)>(0:Int)))=false from AU (by omega)];refine Hi 8 ((i:Int)+1) ((i:Int)+1) ?_;replace hB:=hB.go hb16;replace hM1:=hM1.go hb16;exact hN2 2 (i+1, .slice a1 n1 c1) ⟨hB,by show i+1<=16;omega,_,_,_,M1,rfl,hM1,by rw[Kk,show nmK2 k2 i=[]from by unfold nmK2;rw[Af hno],A3];exact hMB,hlen1⟩ (by show 16-(i+1)<16-i;omega) (λ_=>by kernel_rfl)
   ·skip
    have hne:k2 i≠no:=λe=>hno (isNo_iff.2 e);have hOi:1<=B/\Tr.Ok (B-1) (k2 i):=(by rcases hO.1 i with e|⟨_,e2,e3⟩;exact absurd e hne;exact⟨e2,e3⟩);have hz:0<n3:=(by rw[<-l3];exact BC.2 (It _ hOi.2));rw[show(decide ((n3:Int)>(0:Int)))=true from AT (by omega)];replace hM1:=hM1.go hb16;refine Hc 6 (R:=λu w'=>(∃a5 n5 c5 M5,u= .slice a5 n5 c5/\Bc (λ_=>True) w' a5 n5 c5 M5/\MB M1 M5 (ownN false (k2 i)++nmd (k2 i))/\(∀x,x∈M5->x.length<=1000000))/\Bl (u15) w') ((hK k2 x2 rfl i hne false (hM1) hlen1 (by have h8:=hMB.l;rw[Ab,M9]at h8;have h9:=Mw k2 (i+1) (15-i);rw[show i+1+(15-i)=16 from by omega,G1,Ab,<-Qk,show nmK2 k2 i=ownN false (k2 i)++nmd (k2 i)from by unfold nmK2;rw[Ad hno],Ab]at h9;rw[Td]at hsz;omega) hP3 (by have:=YX k2 x2 hi;omega) (λq y hq=>Xm hv hi hq) ⟨B-1,hOi.2,by omega⟩)) ?_;rintro _ u17⟨⟨a4,n4,c4,M4,rfl,hM4,hMB4,hlen4⟩,hb18⟩;refine Hi 6 ((i:Int)+1) ((i:Int)+1) ?_;replace hB:=(hB.go hb16).go hb18;exact hN2 2 (i+1, .slice a4 n4 c4) ⟨hB,by show i+1<=16;omega,_,_,_,M4,rfl,hM4,by rw[Kk,show nmK2 k2 i=ownN false (k2 i)++nmd (k2 i)from by unfold nmK2;rw[Ad hno],<-AE];exact hMB.trans hMB4,hlen4⟩ (by show 16-(i+1)<16-i;omega) (λ_=>by kernel_rfl)
  obtain rfl:i=16:=by omega
  refine Hb 4 (decide (((16:Nat):Int)<(16:Int))) false (rfl) ?_;exact Hr 15 (.slice a1 n1 c1) ⟨_,rfl,⟨_,_,_,_,rfl,hM1,hMB.cong (λx=>by rw[AM,AM,YT]) (by rw[Ab,Ab,M9,Td]),hlen1⟩,hB⟩
theorem YY(t:Tr):BelS t:=by
 induction t with
 |no=>exact JF _ (λp c e=>by cases e) (λk x e=>by cases e)
 |leaf p x=>exact JF _ (λp c e=>by cases e) (λk x e=>by cases e)
 |ext p c ih=>exact JF _ (λp' c' e=>by cases e;exact ih) (λk x e=>by cases e)
 |br k x ih=>exact JF _ (λp c e=>by cases e) (λk' x' e i _=>by cases e;exact ih i)
def RNs7(w:World)(t:Tr):Value->World->Prop:=λu w'=>(∃a n c,u= .slice a n c/\Bt (λ_=>True) w' a n (nodesP t))/\Bl w w'
theorem Xn{t:Tr}(ht:t≠no)(h:MB [] M1 (ownN true t++nmd t)):M1=nodesP t:=by
 have e:ownN true t=[encT t]:=by unfold ownN;rw[Af (.inl rfl)]
 have hs:=H9 (nmd t++[encT t]) [] (by simp[SrtB]);unfold nodesP;rw[Ad (λq=>ht (isNo_iff.1 q))];refine JR _ _ (h.s (by simp[SrtB])) hs.1 (λx=>?_);rw[h.m,hs.2,e];simp only[AM,Cc,false_or];exact or_comm
theorem UR{l:PList}(hl:PAt K w a n c vs l)(h0:n=0):
 Calls prog 35 #[.slice a n c] w λe w'=>∃u,e= .returned u/\RNs7 w no u w':=by
 have hB:=Bl.refl w;have ll:=hl.ll;refine Dp func35 9<|Hq 10 (n:Int) (0:Int) ?_;exact Hr 10 (.slice none 0 0) ⟨_,rfl,⟨_,_,_,rfl,rfl,λj hj=>absurd hj (Nat.not_lt_zero j)⟩,hB⟩
theorem RC{l:PList}(hl:PAt K w a n c vs l){t:Tr}(hRel:Rel t l)(hb:n<=2600000000000)(h0:0<n)(hsz:(nmd t).length+1<=7600000000000)(le:(entsR t).length=n)(hO:Tr.Ok 64 t):
 Calls prog 35 #[.slice a n c] w λe w'=>∃u,e= .returned u/\RNs7 w t u w':=by
 have hB:=Bl.refl w;have ll:=hl.ll;refine Dp func35 9<|Hz 10 (n:Int) (0:Int)<|Hc 8 (R:=λu w'=>(∃a' m' c' vs',u= .slice a' m' c'/\PAt (λb=>K b∨(w).heap.size<=b) w' a' m' c' vs' (entsR t))/\Bl (w) w') (((PP (hl.go hB) hb (λj k x h=>by have:=((hRel.m k x).1 (AK h)).2.1;omega)).mono (λe w'⟨u,e1,⟨a',m',c',vs',e2,h1⟩,h2⟩=>⟨u,e1,⟨a',m',c',vs',e2,hRel.ones▸h1⟩,h2⟩))) ?_;rintro _ u1⟨⟨a1,n1,c1,vs1,rfl,hP1⟩,hb2⟩;have l1:=hP1.ll;refine Hc 0 (args:=#[.slice none 0 0, .slice a1 n1 c1, .bool true]) (R:=λu w'=>(∃a5 n5 c5 M5,u= .slice a5 n5 c5/\Bc (λ_=>True) w' a5 n5 c5 M5/\MB [] M5 (ownN true t++nmd t)/\(∀x,x∈M5->x.length<=1000000))/\Bl (u1) w') ((YY t true (M:=[]) ⟨⟨rfl,λj hj=>absurd hj (Nat.not_lt_zero j)⟩,Aa _,λ_=>rfl⟩ (λx hx=>by cases hx) (by have:=YU true t;simp only[Cj];omega) hP1 (by omega) hRel.small ⟨64,hO,Aa _⟩)) ?_;rintro _ u3⟨⟨a4,n4,c4,M4,rfl,hM4,hMB4,hlen4⟩,hb4⟩;replace hB:=(hB.go hb2).go hb4;exact Hr 4 (.slice a4 n4 c4) ⟨_,rfl,⟨_,_,_,rfl,Xn hO.ne hMB4▸hM4.bt⟩,hB⟩
theorem MA{t:Tr}{l:PList}(hRel:Rel t l)(hl:PAt K w a n c vs l)(hb:n<=2600000000000)(hsz:(nmd t).length+1<=7600000000000):
 Calls prog 35 #[.slice a n c] w λe w'=>∃u,e= .returned u/\RNs7 w t u w':=by
 have ll:=hl.ll;have le:(entsR t).length=n:=by rw[<-hRel.ones];unfold onesP;rw[AY];exact ll
 rcases hRel.ok with rfl|hO
 ·exact UR hl le.symm
 ·exact RC hl hRel hb (by have:=BC.2 (It _ hO);omega) hsz le hO
end Go.Proofs.YtalhnnjpjaeakaaGreat
namespace Go.Proofs.YtalhnnjpjaeakaaGreat
open Tr
variable {K K' K0 : Nat → Prop} {w w' b : World} {a ak : Option Addr} {n c lo hi g : Nat} {vs : List (Value × Value)} {k : List Int} {y : Opx}
theorem UT{l:PList}(hl:PAt K w a n c vs l){nk ck:Nat}(hk:Sk K' w ak nk ck k)(hb:n<=2600000000000)(hlen:∀(j:Nat) k x,l[j]?=some (k,x)->k.length<=1000000)(hn:32<nk):
 Calls prog 23 #[.slice a n c, .slice ak nk ck] w λe w'=>∃u,e= .returned u/\(λu w'=>(∃a n c vs,u= .tuple #[.slice a n c, .bool (if k.length<=32 then isAt k l else false), .int .i64 (if k.length<=32 then 0 else 70)]/\PAt (λb=>K b∨w.heap.size<=b) w' a n c vs (delL l k))/\Bl w w') u w':=by
 have hB:=Bl.refl w;have lk:=hk.len;have ll:=hl.ll;refine Dp func23 34<|Ht 12 ((nk:Int)>(32:Int)) ?_;exact Hr 13 (.tuple #[.slice a n c, .bool false, .int .i64 70]) ⟨_,rfl,⟨a,n,c,vs,by rw[Ad (by omega),Ad (by omega)],by rw[show delL l k=l from Ad (by omega)];exact(hl.go hB).mono (λ_ h=> .inl h)⟩,hB⟩
theorem Xo{l:PList}(hl:PAt K w a n c vs l){nk ck:Nat}(hk:Sk K' w ak nk ck k)(hb:n<=2600000000000)(hlen:∀(j:Nat) k x,l[j]?=some (k,x)->k.length<=1000000)(hn:nk<=32)(hat:isAt k l=false):
 Calls prog 23 #[.slice a n c, .slice ak nk ck] w λe w'=>∃u,e= .returned u/\(λu w'=>(∃a n c vs,u= .tuple #[.slice a n c, .bool (if k.length<=32 then isAt k l else false), .int .i64 (if k.length<=32 then 0 else 70)]/\PAt (λb=>K b∨w.heap.size<=b) w' a n c vs (delL l k))/\Bl w w') u w':=by
 have hB:=Bl.refl w;have lk:=hk.len;have ll:=hl.ll;refine Dp func23 34<|Hf 12 ((nk:Int)>(32:Int))<|Hc 9 (R:=λu w'=>u= .tuple #[.int .i64 ((atN k l:Nat):Int), .bool (isAt k l)]/\Bl (w) w') ((JW (hl.go hB) (hk.go hB) hb hlen)) ?_;rintro _ u1⟨rfl,hb2⟩;rw[hat];replace hB:=hB.go hb2;exact Hr 25 (.tuple #[.slice a n c, .bool false, .int .i64 0]) ⟨_,rfl,⟨a,n,c,vs,by rw[Af (by omega),Af (by omega)],by rw[show delL l k=l from by unfold delL;rw[Af (by omega),LY,hat];rfl];exact(hl.go hB).mono (λ_ h=> .inl h)⟩,hB⟩
theorem YZ{l:PList}(hl:PAt K w a n c vs l){nk ck:Nat}(hk:Sk K' w ak nk ck k)(hb:n<=2600000000000)(hlen:∀(j:Nat) k x,l[j]?=some (k,x)->k.length<=1000000)(hn:nk<=32)(hat:isAt k l=true):
 Calls prog 23 #[.slice a n c, .slice ak nk ck] w λe w'=>∃u,e= .returned u/\(λu w'=>(∃a n c vs,u= .tuple #[.slice a n c, .bool (if k.length<=32 then isAt k l else false), .int .i64 (if k.length<=32 then 0 else 70)]/\PAt (λb=>K b∨w.heap.size<=b) w' a n c vs (delL l k))/\Bl w w') u w':=by
 have hB:=Bl.refl w;have lk:=hk.len;have ll:=hl.ll;refine Dp func23 34<|Hf 12 ((nk:Int)>(32:Int))<|Hc 9 (R:=λu w'=>u= .tuple #[.int .i64 ((atN k l:Nat):Int), .bool (isAt k l)]/\Bl (w) w') ((JW (hl.go hB) (hk.go hB) hb hlen)) ?_;rintro _ u1⟨rfl,hb2⟩;rw[hat];have hle:=LV k l;have hl0:=hl.old;have hlt:atN k l<n:=by by_cases h:atN k l<n;exact h;rw[J5 (by omega)]at hat;cases hat
 refine Ko 19 #[] 45 0 ?_;intro w0 g0 hn0 _;replace hB:=hB.go hb2;have hO:OwnL (λb=>K b∨w.heap.size<=b) w0 w.heap.size (.slice (some ⟨g0,0,none⟩) 0 0) []:=OwnL.new hn0 hB.size (λb hb=> .inr hb);replace hB:=hB.go hn0.below;obtain⟨a1,n1,c1,hc1,hP1⟩:=(hl0.go hB).cutTo (atN k l) (by omega);refine Hx 2 (og f23 6 3) (.slice a1 n1 c1) (λ_=>hc1 _ _ _ _ _ rfl (by kernel_rfl) (by kernel_rfl)) ?_;have ht1:=hP1.ll;obtain⟨VA,wA,hrA,hOA,hbA⟩:=PA hO hP1 (λb hb=>⟨λe=>by have:=(hO.own b e).1;have:=hb.2;omega, .inl hb.1⟩) (by rw[Ao]at ht1;simp;omega) hB.size;refine Hx 0 (og f23 6 4) VA (λ_=>CM hrA _ _ rfl (by kernel_rfl) (by kernel_rfl)) ?_;replace hB:Bl w wA:=BY hB hbA;replace hO:=hOA;rw[A6]at hO;refine Hw 8 (.int .i64 (IntKind.i64.wrap (((atN k l:Nat):Int)+1))) (.int .i64 ((atN k l+1:Nat):Int)) (Av (Value.int .i64) (by rw[Ee (by omega) (by omega)];omega)) ?_;obtain⟨a3,n3,c3,hc3,hP3⟩:=(hl0.go hB).cutFrom (atN k l+1) (by omega);refine Hx 0 (og f23 7 4) (.slice a3 n3 c3) (λ_=>hc3 _ _ _ _ _ rfl (by kernel_rfl) (by kernel_rfl)) ?_;have ht3:=hP3.ll;obtain⟨VE,wE,hrE,hOE,hbE⟩:=PA hO hP3 (λb hb=>⟨λe=>by have:=(hO.own b e).1;have:=hb.2;omega, .inl hb.1⟩) (by rw[AQ]at ht3;simp;omega) hB.size;refine Hx 0 (og f23 7 5) VE (λ_=>CM hrE _ _ rfl (by kernel_rfl) (by kernel_rfl)) ?_;replace hB:Bl w wE:=BY hB hbE;replace hO:=hOE;have hpl:delL l k=l.take (atN k l)++l.drop (atN k l+1):=by unfold delL;rw[Af (by omega),LY,hat];rfl
 rw[<-hpl]at hO;obtain⟨aF,cF,vsF,eF,hF⟩:=hO.pat
 subst eF;exact Hr 6 (.tuple #[.slice aF (delL l k).length cF, .bool true, .int .i64 0]) ⟨_,rfl,⟨aF,_,cF,vsF,by rw[Af (by omega),Af (by omega)],hF⟩,hB⟩
theorem Xp{l:PList}(hl:PAt K w a n c vs l){nk ck:Nat}(hk:Sk K' w ak nk ck k)(hb:n<=2600000000000)(hlen:∀(j:Nat) k x,l[j]?=some (k,x)->k.length<=1000000):
 Calls prog 23 #[.slice a n c, .slice ak nk ck] w λe w'=>∃u,e= .returned u/\(λu w'=>(∃a n c vs,u= .tuple #[.slice a n c, .bool (if k.length<=32 then isAt k l else false), .int .i64 (if k.length<=32 then 0 else 70)]/\PAt (λb=>K b∨w.heap.size<=b) w' a n c vs (delL l k))/\Bl w w') u w':=by
 by_cases hn:nk<=32
 ·rcases Bool.eq_false_or_eq_true (isAt k l)with hat|hat
  ·exact YZ hl hk hb hlen hn hat
  ·exact Xo hl hk hb hlen hn hat
 ·exact UT hl hk hb hlen (by omega)
def chT(t:Tr)(y:Opx):Tr:=if y.z=0 then putT t y.k y.x else delT t y.k
def chL(l:PList)(y:Opx):PList:=if y.z=0 then putL l y.k y.x else delL l y.k
theorem Rel.ch{t:Tr}{l:PList}(h:Rel t l)(hk:Byk y.k):Rel (chT t y) (chL l y):=by
 unfold chT chL;split
 ·exact h.put hk
 ·exact h.del hk
def Spo(w:World)(v:Value)(n:Nat)(lo hi:Nat):Prop:=(∃a c,v= .slice a 0 c/\n=0)∨∃g c cur,v= .slice (some ⟨g,0,none⟩) n c/\Rw g w cur 5/\n<=cur.size/\lo<=g/\g<hi
theorem OwnB.spo{base:Nat}{v:Value}{bs:List Int}(h:OwnB w base v bs):Spo w v bs.length base w.heap.size:=by
 obtain⟨h1,h2⟩:=h;rcases h2 with⟨rfl,h3⟩|⟨g,cap,cur,rfl,hb,hg,hc1,hc2,hc3,hc4⟩
 ·exact .inl ⟨none,0,rfl,h3⟩
 ·exact .inr ⟨g,cap,cur,rfl,hg,by omega,hb,lt_of_get hg⟩
theorem Spo.go{v:Value}(h:Spo w v n lo hi)(hb:Below w.heap.size w w'):Spo w' v n lo hi:=by
 rcases h with h|⟨g,c,cur,h1,h2,h3⟩
 ·exact .inl h
 ·exact .inr ⟨g,c,cur,h1,h2.go hb,h3⟩
theorem Spo.touch{v:Value}{g':Nat}(h:Spo w v n lo hi)(ht:Touch g' w w')(hg:g'<lo∨hi<=g'):Spo w' v n lo hi:=by
 rcases h with h|⟨g,c,cur,h1,h2,h3,h4,h5⟩
 ·exact .inl h
 ·exact .inr ⟨g,c,cur,h1,h2.touch ht (by omega),h3,h4,h5⟩
structure Tm(lo hi:Nat)(w w':World):Prop where
 os:w'.os=w.os
 tape:w'.tape=w.tape
 output:w'.output=w.output
 size:w.heap.size<=w'.heap.size
 block:∀k,k<w.heap.size->(k<lo∨hi<=k)->w'.heap[k]?=w.heap[k]?
theorem Tm.refl(lo hi:Nat)(w:World):Tm lo hi w w:=⟨rfl,rfl,rfl,Aa _,λ_ _ _=>rfl⟩
theorem Tm.trans{a c:World}(h:Tm lo hi a b)(k:Tm lo hi b c):Tm lo hi a c:=⟨k.os.trans h.os,k.tape.trans h.tape,k.output.trans h.output,Al h.size k.size,λi hi hg=>(k.block i (Bw hi h.size) hg).trans (h.block i hi hg)⟩
theorem Tm.of{a:World}(h:Touch g a b)(h1:lo<=g)(h2:g<hi):Tm lo hi a b:=⟨h.os,h.tape,h.output,h.size,λk hk hg=>h.block k hk (by omega)⟩
theorem Sk.tm{bs:List Int}(h:Sk K w a n c bs)(t:Tm lo hi w w')(hK:∀b,K b->b<lo∨hi<=b):Sk K w' a n c bs:=by
 refine⟨⟨?_,h.ag.nil,h.ag.l,h.ag.b⟩,h.k⟩;rcases h.ag.i with h1|⟨gb,off,h1,h2,h3,h4,h5,h7⟩
 ·exact .inl h1
 ·refine .inr ⟨gb,off,h1,h2,h3,h4,h5,λj hj=>?_⟩;rw[<-h7 j hj];exact Aq (t.block gb (Aj (h7 j hj)) (hK _ (h.k _ h1 h3)))
theorem TA.tm(ht:Tm lo hi w w')(hK:∀b,K b->b<lo∨hi<=b):∀{t:Tr}{v:Value},TA K w t v->TA K w' t v:=by
 intro t
 induction t with
 |no=>intro v h;exact h
 |leaf p x=>rintro v⟨a,n,c,a',n',c',h1,h2,h3,h4⟩;exact⟨a,n,c,a',n',c',h1,h2.tm ht hK,h3.tm ht hK,h4⟩
 |ext p t ih=>rintro v⟨a,n,c,u,h1,h2,h3⟩;exact⟨a,n,c,u,h1,h2.tm ht hK,ih h3⟩
 |br k x ih=>rintro v⟨vs,a,n,c,h1,h2,h3,h4⟩;exact⟨vs,a,n,c,h1,λi hi=>ih i (h2 i hi),h3.tm ht hK,h4⟩
theorem Tri.tm{t:Tr}(h:Tri K w g t)(ht:Tm lo hi w w')(hK:∀b,K b->b<lo∨hi<=b)(hg:g<lo∨hi<=g):Tri K w' g t:=by
 obtain⟨⟨v,h1,h2⟩,h3⟩:=h;exact⟨⟨v,(ht.block g (lt_of_get h1) hg).trans h1,h2.tm ht hK⟩,h3⟩
theorem PAt.tm{l:PList}(h:PAt K w a n c vs l)(ht:Tm lo hi w w')(hK:∀b,K b->b<lo∨hi<=b):PAt K w' a n c vs l:=by
 refine⟨h.vl,h.ll,h.nc,h.nil,λj u hj=>?_,λj p e h1 h2=>?_,h.rk⟩
 ·obtain⟨g',off,h1,h2⟩:=h.row j u hj;have hlt:j<(flatP vs).length:=(Aw.1 hj).1;rw[DP,h.vl]at hlt;exact⟨g',off,h1,(Aq (a:=⟨g',off+j,none⟩) (ht.block g' (Aj h2) (hK _ (h.rk _ h1 (by omega))))).trans h2⟩
 ·obtain⟨a1,n1,c1,a2,n2,c2,q1,q2,q3,q4⟩:=h.gd j p e h1 h2;exact⟨a1,n1,c1,a2,n2,c2,q1,q2,q3.tm ht hK,q4.tm ht hK⟩
theorem TA.oldK:∀{t:Tr}{v:Value},TA K w t v->TA (λb=>K b/\b<w.heap.size) w t v:=by
 have hs:∀{a:Option Addr}{n c:Nat}{bs:List Int},Sk K w a n c bs->Sk (λb=>K b/\b<w.heap.size) w a n c bs:=λh=>⟨h.ag,λx hx hn=>⟨h.k x hx hn,h.old hx hn⟩⟩;intro t
 induction t with
 |no=>intro v h;exact h
 |leaf p x=>rintro v⟨a,n,c,a',n',c',h1,h2,h3,h4⟩;exact⟨a,n,c,a',n',c',h1,hs h2,hs h3,h4⟩
 |ext p t ih=>rintro v⟨a,n,c,u,h1,h2,h3⟩;exact⟨a,n,c,u,h1,hs h2,ih h3⟩
 |br k x ih=>rintro v⟨vs,a,n,c,h1,h2,h3,h4⟩;exact⟨vs,a,n,c,h1,λi hi=>ih i (h2 i hi),hs h3,h4⟩
theorem Tri.oldK{t:Tr}(h:Tri K w g t):Tri (λb=>K b/\b<w.heap.size) w g t:=by
 obtain⟨⟨v,h1,h2⟩,h3⟩:=h;exact⟨⟨v,h1,h2.oldK⟩,h3⟩
theorem Spo.wide{v:Value}{lo' hi':Nat}(h:Spo w v n lo hi)(h1:lo'<=lo)(h2:w.heap.size<=hi'):Spo w v n lo' hi':=by
 rcases h with h|⟨g,c,cur,q1,q2,q3,q4,q5⟩
 ·exact .inl h
 ·exact .inr ⟨g,c,cur,q1,q2,q3,by omega,by have:=lt_of_get q2;omega⟩
theorem Spo.set{v u:Value}{g1 o:Nat}{cur1:Array Value}(h:Spo w v n lo hi)(hs:Set1 w w' g1 o u)(hr:Rw g1 w cur1 5):Spo w' v n lo hi:=by
 rcases h with h|⟨g,c,cur,q1,q2,q3,q4,q5⟩
 ·exact .inl h
 ·by_cases e:g=g1
  ·subst e;exact .inr ⟨g,c,_,q1,q2.set hs rfl,by simpa using q3,q4,q5⟩
  ·exact .inr ⟨g,c,cur,q1,q2.apart hs e,q3,q4,q5⟩
theorem Tm.after{a:World}(h:Tm lo hi a b)(t:Touch g w a)(hlo:w.heap.size<=lo:=by exact Aa _):Touch g w b:=⟨h.os.trans t.os,h.tape.trans t.tape,h.output.trans t.output,Al t.size h.size,λk hk hg=>(h.block k (Bw hk t.size) (.inl (Bw hk hlo))).trans (t.block k hk hg)⟩
theorem Ql{t:Tr}(hT:Tri K0 w g t){l:PList}(hP:PAt K0 w a n c vs l)(hk:Ag w y.ka y.kn y.kc y.k)(hx:Ag w y.va y.vn y.vc y.x)(hbn:n<=2600000000000)(bk0:y.kn<=140737488355328)(bx0:y.vn<=140737488355328)(hlen:∀(j:Nat) k x,l[j]?=some (k,x)->k.length<=1000000)(hz:y.z=0):
 Calls prog 9 #[.pointer (some ⟨g,0,none⟩), .slice a n c, .agg #[.int .i64 y.z, .slice y.ka y.kn y.kc, .slice y.va y.vn y.vc]] w λe w'=>∃u,e= .returned u/\(λu w'=>(∃a' n' c' vs' b,u= .tuple #[.slice a' n' c', .bool b]/\PAt (λb=>K0 b∨w.heap.size<=b) w' a' n' c' vs' (chL l y)/\(Rel t l->b=true))/\Tri (λb=>K0 b∨w.heap.size<=b) w' g (chT t y)/\Touch g w w') u w':=by
 have hB:=Bl.refl w;have lk:=hk.l;have lx:=hx.l;have hT0:=hT.oldK;have hP0:=hP.old;have hgl:=hT.lt;have hok:=hk.an;have hox:=hx.an;refine Dp func9 107<|Hn 2 (#[.int .i64 y.z, .slice y.ka y.kn y.kc, .slice y.va y.vn y.vc]) 29 ?_;intro w1 g2 hn3 hr4;have hgO:=hn3.hg;replace hB:=hB.go hn3.below;have hB_0:=hB;replace hok:=hok.go hn3.below;have hok_0:=hok;replace hox:=hox.go hn3.below;have hox_0:=hox;have hr4_0:=hr4;have hwBk:=hB.size;refine Ko 6 #[] 5 0 ?_;intro wk gk hnk _;have hqk:=EO hnk (Aa _);replace hr4:=hr4.go hnk.below;refine Hl 1 hr4 1 27 (.slice y.ka y.kn y.kc) ?_;replace hok:=hok.go hnk.below;obtain⟨Vk,wkb,hrk,hok,hbk⟩:=Ew hqk hok.ag (by simp;omega) (by have:=hnk.below.size;omega);rw[A6]at hok;refine Hx 0 (og f9 1 3) Vk (λ_=>Cu hrk _ _ rfl (by kernel_rfl) (by kernel_rfl)) ?_;have hfk:Below w1.heap.size w1 wkb:=hnk.below.trans hbk;have hzk:=hok.spo;obtain⟨bk,dk,ek,hsk⟩:=hok.sk (K:=An) hk.b (λb hb=>trivial);rw[ek]at hzk⊢;rw[hk.l]at hzk hsk⊢;replace hB:=hB.go hnk.below;replace hB:=hB_0.go hfk;replace hok:=hok_0.go hfk;replace hox:=hox.go hnk.below;replace hox:=hox_0.go hfk;replace hr4:=hr4_0.go hfk;have hzsk:=hfk.size;have hB_0:=hB;have hok_0:=hok;have hox_0:=hox;have hr4_0:=hr4;have hsk_0:=hsk;have hzk_0:=hzk;have hwBx:=hB.size;refine Ko 5 #[] 5 0 ?_;intro wx gx hnx _;have hqx:=EO hnx (Aa _);replace hr4:=hr4.go hnx.below;refine Hl 1 hr4 2 27 (.slice y.va y.vn y.vc) ?_;replace hox:=hox.go hnx.below;obtain⟨Vx,wxb,hrx,hox,hbx⟩:=Ew hqx hox.ag (by simp;omega) (by have:=hnx.below.size;omega);rw[A6]at hox;refine Hx 0 (og f9 2 3) Vx (λ_=>Cu hrx _ _ rfl (by kernel_rfl) (by kernel_rfl)) ?_;have hfx:Below wkb.heap.size wkb wxb:=hnx.below.trans hbx;have hzx:=hox.spo;obtain⟨bx,dx,ex,hsx⟩:=hox.sk (K:=An) hx.b (λb hb=>trivial);rw[ex]at hzx⊢;rw[hx.l]at hzx hsx⊢;replace hB:=hB.go hnx.below;replace hB:=hB_0.go hfx;replace hok:=hok.go hnx.below;replace hok:=hok_0.go hfx;replace hox:=hox_0.go hfx;replace hr4:=hr4_0.go hfx;replace hsk:=hsk.go hnx.below;replace hsk:=hsk_0.go hfx;replace hzk:=hzk.go hnx.below;replace hzk:=hzk_0.go hfx;have hzsx:=hfx.size;obtain⟨S0,eS0⟩:∃S0,(wxb).heap.size=S0:=⟨_,rfl⟩;have hw0:=hB.size;have hw1:=hB_0.size;replace hzk:Spo wxb (.slice bk y.kn dk) y.kn w.heap.size S0:=hzk.wide (by omega) (by rw[<-eS0];exact Aa _);replace hzx:Spo wxb (.slice bx y.vn dx) y.vn w.heap.size S0:=hzx.wide (by omega) (by rw[<-eS0];exact Aa _);have hTt:Tri (λb=>(K0 b/\b<w.heap.size)∨S0<=b) wxb g t:=(hT0.go hB).mono (λb hb=> .inl hb);refine Hl 12 hr4 0 3 (.int .i64 y.z)<|Hb 0 ((y.z:Int)==(0:Int)) true (C9.2 hz)<|Hl 7 hr4 1 27 (.slice y.ka y.kn y.kc)<|Hl 1 hr4 2 27 (.slice y.va y.vn y.vc)<|Hc 0 (R:=λu w'=>(∃a n c vs,u= .tuple #[.slice a n c, .int .i64 (putE y.k y.x)]/\PAt (λb=>(K0 b/\b<w.heap.size)∨(wxb).heap.size<=b) w' a n c vs (putL l y.k y.x))/\Bl (wxb) w') ((WL (hP0.go hB) hok hbn hox hlen)) ?_;rintro _ u5⟨⟨aL2,nL2,cL2,vsL2,rfl,hPn⟩,hb6⟩;have hsu5:=hb6.size;replace hsk:=hsk.go hb6;replace hsx:=hsx.go hb6;replace hTt:=hTt.go hb6;refine Hc 12 (R:=λu w'=>u= .int .i64 (putE y.k y.x)/\Tri (λb=>(K0 b/\b<w.heap.size)∨S0<=b) w' g (putT t y.k y.x)/\Touch g (u5) w') ((LR hTt hsk hsx (λb hb=> .inr (by omega)))) ?_;rintro _ u7⟨rfl,hTn,hto⟩;replace hok:=hok.go hb6;replace hok:=hok.touch hto hTt;replace hox:=hox.go hb6;replace hox:=hox.touch hto hTt;replace hsk:=hsk.touch hto hTt;replace hsx:=hsx.touch hto hTt;replace hPn:=hPn.mono (K':=λb=>(K0 b/\b<w.heap.size)∨S0<=b) (λb hb=>by rcases hb with h|h;exact .inl h;exact .inr (by omega));replace hPn:=hPn.touch hto hTt;replace hB:=hB.go hb6;have hto1:Touch g w u7:=(Touch.of_below hB).trans hto;replace hTt:=hTn;clear hB;refine Hb 1 ((putE y.k y.x:Int)==(putE y.k y.x:Int)) true (beq_self_eq_true _)<|Hx 13 (og f9 12 3) (.string (strOfNums y.k)) (λ_=>hsk.run_str _ _ _ rfl (by kernel_rfl)) ?_;replace hr4:=(hr4.go hb6).touch hto (by omega);refine Hl 1 hr4 1 27 (.slice y.ka y.kn y.kc)<|Hx 0 (og f9 12 6) (.string (strOfNums y.k)) (λ_=>hok.run_str _ _ _ rfl (by kernel_rfl))<|Hx 0 (og f9 12 7) (.bool true) (λ_=>Gf 9 _ _ _ (strOfNums y.k) (strOfNums y.k) rfl (by kernel_rfl) (by kernel_rfl) (by simp))<|Hx 3 (og f9 12 11) (.string (strOfNums y.x)) (λ_=>hsx.run_str _ _ _ rfl (by kernel_rfl))<|Hl 1 hr4 2 27 (.slice y.va y.vn y.vc)<|Hx 0 (og f9 12 14) (.string (strOfNums y.x)) (λ_=>hox.run_str _ _ _ rfl (by kernel_rfl))<|Hx 0 (og f9 12 15) (.bool true) (λ_=>Gf 9 _ _ _ (strOfNums y.x) (strOfNums y.x) rfl (by kernel_rfl) (by kernel_rfl) (by simp)) ?_;replace hzk:=(hzk.go hb6).touch hto (.inl hgl);replace hzx:=(hzx.go hb6).touch hto (.inl hgl);refine Ho (X:=Nat) 13 (λj=>[(89, .int .i64 (j:Int)),(88, .int .i64 y.kn),(10, .bool true),(1, .slice aL2 nL2 cL2),(9, .slice bx y.vn dx),(8, .slice bk y.kn dk)]) (λj v=>Tm w.heap.size S0 u7 v/\Spo v (.slice bk y.kn dk) y.kn w.heap.size S0/\Spo v (.slice bx y.vn dx) y.vn w.heap.size S0/\j<=y.kn) (λj=>y.kn-j) 0 ⟨Tm.refl _ _ _,hzk,hzx,Ay _⟩ ?_;rintro j vk⟨hm,hzk',hzx',hj⟩ I1 hN1;by_cases hlt:j<y.kn
 ·skip
  rcases id hzk' with⟨_,_,_,q0⟩|⟨g1,c1,cur1,q1,hr1,hsz1,hlo1,hhi1⟩
  ·omega
  ·skip
   cases q1;refine Ht 2 ((j:Int)<(y.kn:Int))<|Hx 17 (og f9 16 2) (.pointer (some ⟨g1,0+j*1,none⟩)) (λ_=>AV 27 _ _ g1 0 j y.kn dk 1 5 rfl (by kernel_rfl) (by kernel_rfl) hlt underlying27 (by kernel_rfl))<|Ha 0 (og f9 16 3) g1 (0+j*1) (.int .u8 99) (λ_=>BO 5 _ _ g1 (0+j*1) _ 5 _ hr1 rfl (by kernel_rfl) (by kernel_rfl) (by omega) rfl rfl (by kernel_rfl)) ?_;intro vS hset;refine Hi 4 ((j:Int)+1) ((j:Int)+1) ?_;exact hN1 2 (j+1) ⟨hm.trans (Tm.of hset.touch hlo1 hhi1),hzk'.set hset hr1,hzx'.set hset hr1,by omega⟩ (by show y.kn-(j+1)<y.kn-j;omega) (λ_=>by kernel_rfl)
 have hjn:j=y.kn:=by omega
 replace hzk:=hzk';replace hzx:=hzx';have hm1:=hm;refine Hf 2 ((j:Int)<(y.kn:Int))<|Ho (X:=Nat) 18 (λj=>[(98, .int .i64 (j:Int)),(97, .int .i64 y.vn),(10, .bool true),(1, .slice aL2 nL2 cL2),(9, .slice bx y.vn dx),(8, .slice bk y.kn dk)]) (λj v=>Tm w.heap.size S0 vk v/\Spo v (.slice bk y.kn dk) y.kn w.heap.size S0/\Spo v (.slice bx y.vn dx) y.vn w.heap.size S0/\j<=y.vn) (λj=>y.vn-j) 0 ⟨Tm.refl _ _ _,hzk,hzx,Ay _⟩ ?_;rintro j vx⟨hm,hzk',hzx',hj⟩ I2 hN2;by_cases hlt:j<y.vn
 ·skip
  rcases id hzx' with⟨_,_,_,q0⟩|⟨g1,c1,cur1,q1,hr1,hsz1,hlo1,hhi1⟩
  ·omega
  ·skip
   cases q1;refine Ht 2 ((j:Int)<(y.vn:Int))<|Hx 17 (og f9 21 2) (.pointer (some ⟨g1,0+j*1,none⟩)) (λ_=>AV 27 _ _ g1 0 j y.vn dx 1 5 rfl (by kernel_rfl) (by kernel_rfl) hlt underlying27 (by kernel_rfl))<|Ha 0 (og f9 21 3) g1 (0+j*1) (.int .u8 99) (λ_=>BO 5 _ _ g1 (0+j*1) _ 5 _ hr1 rfl (by kernel_rfl) (by kernel_rfl) (by omega) rfl rfl (by kernel_rfl)) ?_;intro vS hset;refine Hi 4 ((j:Int)+1) ((j:Int)+1) ?_;exact hN2 2 (j+1) ⟨hm.trans (Tm.of hset.touch hlo1 hhi1),hzk'.set hset hr1,hzx'.set hset hr1,by omega⟩ (by show y.vn-(j+1)<y.vn-j;omega) (λ_=>by kernel_rfl)
 have hjn:j=y.vn:=by omega
 replace hzk:=hzk';replace hzx:=hzx';refine Hf 2 ((j:Int)<(y.vn:Int)) ?_;have hM:=hm1.trans hm;exact Hr 18 (.tuple #[.slice aL2 nL2 cL2, .bool true]) ⟨_,rfl,⟨aL2,nL2,cL2,vsL2,true,rfl,by rw[show chL l y=putL l y.k y.x from Af hz];exact(hPn.tm hM (λb hb=>hb.imp (λh=>h.2) id)).mono (λb hb=>hb.imp (λh=>h.1) (λh=>by omega)),λ_=>rfl⟩,by rw[show chT t y=putT t y.k y.x from Af hz];exact(hTt.tm hM (λb hb=>hb.imp (λh=>h.2) id) (.inl hgl)).mono (λb hb=>hb.imp (λh=>h.1) (λh=>by omega)),hM.after hto1⟩
theorem Qm{t:Tr}(hT:Tri K0 w g t){l:PList}(hP:PAt K0 w a n c vs l)(hk:Ag w y.ka y.kn y.kc y.k)(hx:Ag w y.va y.vn y.vc y.x)(hbn:n<=2600000000000)(bk0:y.kn<=140737488355328)(bx0:y.vn<=140737488355328)(hlen:∀(j:Nat) k x,l[j]?=some (k,x)->k.length<=1000000)(hz:¬y.z=0):
 Calls prog 9 #[.pointer (some ⟨g,0,none⟩), .slice a n c, .agg #[.int .i64 y.z, .slice y.ka y.kn y.kc, .slice y.va y.vn y.vc]] w λe w'=>∃u,e= .returned u/\(λu w'=>(∃a' n' c' vs' b,u= .tuple #[.slice a' n' c', .bool b]/\PAt (λb=>K0 b∨w.heap.size<=b) w' a' n' c' vs' (chL l y)/\(Rel t l->b=true))/\Tri (λb=>K0 b∨w.heap.size<=b) w' g (chT t y)/\Touch g w w') u w':=by
 have hB:=Bl.refl w;have lk:=hk.l;have lx:=hx.l;have hT0:=hT.oldK;have hP0:=hP.old;have hgl:=hT.lt;have hok:=hk.an;have hox:=hx.an;have hPl:=hP0;obtain⟨bD,hbD⟩:∃b,(if y.k.length<=32 then decide (Tr.get t (Ni.nib y.k)≠[])else false)=b:=⟨_,rfl⟩;obtain⟨bR,hbR⟩:∃b,(if y.k.length<=32 then isAt y.k l else false)=b:=⟨_,rfl⟩;obtain⟨zE,hzE⟩:∃z:Int,(if y.k.length<=32 then(0:Int)else 70)=z:=⟨_,rfl⟩;refine Dp func9 107<|Hn 2 (#[.int .i64 y.z, .slice y.ka y.kn y.kc, .slice y.va y.vn y.vc]) 29 ?_;intro w1 g2 hn3 hr4;have hgO:=hn3.hg;replace hB:=hB.go hn3.below;have hB_0:=hB;replace hok:=hok.go hn3.below;have hok_0:=hok;replace hox:=hox.go hn3.below;have hox_0:=hox;replace hPl:=hPl.go hn3.below;have hPl_0:=hPl;have hr4_0:=hr4;have hwBk:=hB.size;refine Ko 6 #[] 5 0 ?_;intro wk gk hnk _;have hqk:=EO hnk (Aa _);replace hr4:=hr4.go hnk.below;refine Hl 1 hr4 1 27 (.slice y.ka y.kn y.kc) ?_;replace hok:=hok.go hnk.below;obtain⟨Vk,wkb,hrk,hok,hbk⟩:=Ew hqk hok.ag (by simp;omega) (by have:=hnk.below.size;omega);rw[A6]at hok;refine Hx 0 (og f9 1 3) Vk (λ_=>Cu hrk _ _ rfl (by kernel_rfl) (by kernel_rfl)) ?_;have hfk:Below w1.heap.size w1 wkb:=hnk.below.trans hbk;have hzk:=hok.spo;obtain⟨bk,dk,ek,hsk⟩:=hok.sk (K:=An) hk.b (λb hb=>trivial);rw[ek]at hzk⊢;rw[hk.l]at hzk hsk⊢;replace hB:=hB.go hnk.below;replace hB:=hB_0.go hfk;replace hok:=hok_0.go hfk;replace hox:=hox.go hnk.below;replace hox:=hox_0.go hfk;replace hPl:=hPl.go hnk.below;replace hPl:=hPl_0.go hfk;replace hr4:=hr4_0.go hfk;have hzsk:=hfk.size;have hB_0:=hB;have hok_0:=hok;have hox_0:=hox;have hPl_0:=hPl;have hr4_0:=hr4;have hsk_0:=hsk;have hzk_0:=hzk;have hwBx:=hB.size;refine Ko 5 #[] 5 0 ?_;intro wx gx hnx _;have hqx:=EO hnx (Aa _);replace hr4:=hr4.go hnx.below;refine Hl 1 hr4 2 27 (.slice y.va y.vn y.vc) ?_;replace hox:=hox.go hnx.below;obtain⟨Vx,wxb,hrx,hox,hbx⟩:=Ew hqx hox.ag (by simp;omega) (by have:=hnx.below.size;omega);rw[A6]at hox;refine Hx 0 (og f9 2 3) Vx (λ_=>Cu hrx _ _ rfl (by kernel_rfl) (by kernel_rfl)) ?_;have hfx:Below wkb.heap.size wkb wxb:=hnx.below.trans hbx;have hzx:=hox.spo;obtain⟨bx,dx,ex,hsx⟩:=hox.sk (K:=An) hx.b (λb hb=>trivial);rw[ex]at hzx⊢;rw[hx.l]at hzx hsx⊢;replace hB:=hB.go hnx.below;replace hB:=hB_0.go hfx;replace hok:=hok.go hnx.below;replace hok:=hok_0.go hfx;replace hox:=hox_0.go hfx;replace hPl:=hPl.go hnx.below;replace hPl:=hPl_0.go hfx;replace hr4:=hr4_0.go hfx;replace hsk:=hsk.go hnx.below;replace hsk:=hsk_0.go hfx;replace hzk:=hzk.go hnx.below;replace hzk:=hzk_0.go hfx;have hzsx:=hfx.size;obtain⟨S0,eS0⟩:∃S0,(wxb).heap.size=S0:=⟨_,rfl⟩;have hw0:=hB.size;have hw1:=hB_0.size;replace hzk:Spo wxb (.slice bk y.kn dk) y.kn w.heap.size S0:=hzk.wide (by omega) (by rw[<-eS0];exact Aa _);replace hzx:Spo wxb (.slice bx y.vn dx) y.vn w.heap.size S0:=hzx.wide (by omega) (by rw[<-eS0];exact Aa _);have hTt:Tri (λb=>(K0 b/\b<w.heap.size)∨S0<=b) wxb g t:=(hT0.go hB).mono (λb hb=> .inl hb);refine Hl 12 hr4 0 3 (.int .i64 y.z)<|Hb 0 ((y.z:Int)==(0:Int)) false (BB.2 hz)<|Hc 7 (R:=λu w'=>u= .tuple #[.bool bD, .int .i64 zE]/\Tri (λb=>(K0 b/\b<w.heap.size)∨S0<=b) w' g (delT t y.k)/\Touch g (wxb) w') (((Uj hTt hsk (λb hb=> .inr (by omega))).mono (λe w'⟨u,e1,e2,e3⟩=>⟨u,e1,by rw[e2,hbD,hzE],e3⟩))) ?_;rintro _ u5⟨rfl,hTn,hto⟩;have hsT:=hto.size;replace hok:=hok.touch hto hTt;replace hox:=hox.touch hto hTt;replace hPl:=hPl.touch hto hTt;replace hsk:=hsk.touch hto hTt;replace hsx:=hsx.touch hto hTt;have hto1:Touch g w u5:=(Touch.of_below hB).trans hto;replace hTt:=hTn;clear hB;refine Hp 0 (.tuple #[.bool bD, .int .i64 zE])<|Hp 0 (.bool bD)<|Hp 1 (.bool bD) ?_;replace hr4:=hr4.touch hto (by omega);refine Hl 7 hr4 1 27 (.slice y.ka y.kn y.kc)<|Hc 0 (R:=λu w'=>(∃a n c vs,u= .tuple #[.slice a n c, .bool bR, .int .i64 zE]/\PAt (λb=>(K0 b/\b<w.heap.size)∨(u5).heap.size<=b) w' a n c vs (delL l y.k))/\Bl (u5) w') (((Xp hPl hok hbn hlen).mono (λe w'⟨u,e1,⟨a,n,c,vs,e2,e3⟩,e4⟩=>⟨u,e1,⟨a,n,c,vs,by rw[e2,hbR,hzE],e3⟩,e4⟩))) ?_;rintro _ u6⟨⟨aL2,nL2,cL2,vsL2,rfl,hPn⟩,hb7⟩;have hsR:=hb7.size;refine Hp 0 (.tuple #[.slice aL2 nL2 cL2, .bool bR, .int .i64 zE])<|Hp 1 (.bool bR)<|Hp 2 (.bool bR)<|Hp 5 (.bool bD)<|Hp 0 (.bool bR) ?_;by_cases hbb:bD=bR
 ·skip
  refine Hx 0 (og f9 10 2) (.bool true) (λ_=>Qu 4 _ _ _ bD bR rfl (by kernel_rfl) (by kernel_rfl) (by simp[hbb]))<|Hb 3 ((zE:Int)==(zE:Int)) true (beq_self_eq_true _) ?_;replace hsk:=hsk.go hb7;refine Hx 14 (og f9 12 3) (.string (strOfNums y.k)) (λ_=>hsk.run_str _ _ _ rfl (by kernel_rfl)) ?_;replace hr4:=hr4.go hb7;refine Hl 1 hr4 1 27 (.slice y.ka y.kn y.kc) ?_;replace hok:=hok.go hb7;refine Hx 0 (og f9 12 6) (.string (strOfNums y.k)) (λ_=>hok.run_str _ _ _ rfl (by kernel_rfl))<|Hx 0 (og f9 12 7) (.bool true) (λ_=>Gf 9 _ _ _ (strOfNums y.k) (strOfNums y.k) rfl (by kernel_rfl) (by kernel_rfl) (by simp)) ?_;replace hsx:=hsx.go hb7;refine Hx 3 (og f9 12 11) (.string (strOfNums y.x)) (λ_=>hsx.run_str _ _ _ rfl (by kernel_rfl))<|Hl 1 hr4 2 27 (.slice y.va y.vn y.vc) ?_;replace hox:=hox.go hb7;refine Hx 0 (og f9 12 14) (.string (strOfNums y.x)) (λ_=>hox.run_str _ _ _ rfl (by kernel_rfl))<|Hx 0 (og f9 12 15) (.bool true) (λ_=>Gf 9 _ _ _ (strOfNums y.x) (strOfNums y.x) rfl (by kernel_rfl) (by kernel_rfl) (by simp)) ?_;replace hzk:=(hzk.touch hto (.inl hgl)).go hb7;replace hzx:=(hzx.touch hto (.inl hgl)).go hb7;refine Ho (X:=Nat) 13 (λj=>[(89, .int .i64 (j:Int)),(88, .int .i64 y.kn),(10, .bool true),(1, .slice aL2 nL2 cL2),(9, .slice bx y.vn dx),(8, .slice bk y.kn dk)]) (λj v=>Tm w.heap.size S0 u6 v/\Spo v (.slice bk y.kn dk) y.kn w.heap.size S0/\Spo v (.slice bx y.vn dx) y.vn w.heap.size S0/\j<=y.kn) (λj=>y.kn-j) 0 ⟨Tm.refl _ _ _,hzk,hzx,Ay _⟩ ?_;rintro j vk⟨hm,hzk',hzx',hj⟩ I1 hN1;by_cases hlt:j<y.kn
  ·skip
   rcases id hzk' with⟨_,_,_,q0⟩|⟨g1,c1,cur1,q1,hr1,hsz1,hlo1,hhi1⟩
   ·omega
   ·skip
    cases q1;refine Ht 2 ((j:Int)<(y.kn:Int))<|Hx 17 (og f9 16 2) (.pointer (some ⟨g1,0+j*1,none⟩)) (λ_=>AV 27 _ _ g1 0 j y.kn dk 1 5 rfl (by kernel_rfl) (by kernel_rfl) hlt underlying27 (by kernel_rfl))<|Ha 0 (og f9 16 3) g1 (0+j*1) (.int .u8 99) (λ_=>BO 5 _ _ g1 (0+j*1) _ 5 _ hr1 rfl (by kernel_rfl) (by kernel_rfl) (by omega) rfl rfl (by kernel_rfl)) ?_;intro vS hset;refine Hi 4 ((j:Int)+1) ((j:Int)+1) ?_;exact hN1 2 (j+1) ⟨hm.trans (Tm.of hset.touch hlo1 hhi1),hzk'.set hset hr1,hzx'.set hset hr1,by omega⟩ (by show y.kn-(j+1)<y.kn-j;omega) (λ_=>by kernel_rfl)
  have hjn:j=y.kn:=by omega
  replace hzk:=hzk';replace hzx:=hzx';have hm1:=hm;refine Hf 2 ((j:Int)<(y.kn:Int))<|Ho (X:=Nat) 18 (λj=>[(98, .int .i64 (j:Int)),(97, .int .i64 y.vn),(10, .bool true),(1, .slice aL2 nL2 cL2),(9, .slice bx y.vn dx),(8, .slice bk y.kn dk)]) (λj v=>Tm w.heap.size S0 vk v/\Spo v (.slice bk y.kn dk) y.kn w.heap.size S0/\Spo v (.slice bx y.vn dx) y.vn w.heap.size S0/\j<=y.vn) (λj=>y.vn-j) 0 ⟨Tm.refl _ _ _,hzk,hzx,Ay _⟩ ?_;rintro j vx⟨hm,hzk',hzx',hj⟩ I2 hN2;by_cases hlt:j<y.vn
  ·skip
   rcases id hzx' with⟨_,_,_,q0⟩|⟨g1,c1,cur1,q1,hr1,hsz1,hlo1,hhi1⟩
   ·omega
   ·skip
    cases q1;refine Ht 2 ((j:Int)<(y.vn:Int))<|Hx 17 (og f9 21 2) (.pointer (some ⟨g1,0+j*1,none⟩)) (λ_=>AV 27 _ _ g1 0 j y.vn dx 1 5 rfl (by kernel_rfl) (by kernel_rfl) hlt underlying27 (by kernel_rfl))<|Ha 0 (og f9 21 3) g1 (0+j*1) (.int .u8 99) (λ_=>BO 5 _ _ g1 (0+j*1) _ 5 _ hr1 rfl (by kernel_rfl) (by kernel_rfl) (by omega) rfl rfl (by kernel_rfl)) ?_;intro vS hset;refine Hi 4 ((j:Int)+1) ((j:Int)+1) ?_;exact hN2 2 (j+1) ⟨hm.trans (Tm.of hset.touch hlo1 hhi1),hzk'.set hset hr1,hzx'.set hset hr1,by omega⟩ (by show y.vn-(j+1)<y.vn-j;omega) (λ_=>by kernel_rfl)
  have hjn:j=y.vn:=by omega
  replace hzk:=hzk';replace hzx:=hzx';refine Hf 2 ((j:Int)<(y.vn:Int)) ?_;have hM:=hm1.trans hm;replace hto1:=hto1.trans (Touch.of_below hb7);replace hTt:=hTt.go hb7;replace hPn:=hPn.mono (K':=λb=>(K0 b/\b<w.heap.size)∨S0<=b) (λb hb=>by rcases hb with h|h;exact .inl h;exact .inr (by omega));exact Hr 18 (.tuple #[.slice aL2 nL2 cL2, .bool true]) ⟨_,rfl,⟨aL2,nL2,cL2,vsL2,true,rfl,by rw[show chL l y=delL l y.k from Ad hz];exact(hPn.tm hM (λb hb=>hb.imp (λh=>h.2) id)).mono (λb hb=>hb.imp (λh=>h.1) (λh=>by omega)),λ_=>rfl⟩,by rw[show chT t y=delT t y.k from Ad hz];exact(hTt.tm hM (λb hb=>hb.imp (λh=>h.2) id) (.inl hgl)).mono (λb hb=>hb.imp (λh=>h.1) (λh=>by omega)),hM.after hto1⟩
 ·skip
  refine Hx 0 (og f9 10 2) (.bool false) (λ_=>Qu 4 _ _ _ bD bR rfl (by kernel_rfl) (by kernel_rfl) (by simp[hbb])) ?_;replace hzk:=(hzk.touch hto (.inl hgl)).go hb7;replace hzx:=(hzx.touch hto (.inl hgl)).go hb7;refine Ho (X:=Nat) 44 (λj=>[(89, .int .i64 (j:Int)),(88, .int .i64 y.kn),(10, .bool false),(1, .slice aL2 nL2 cL2),(9, .slice bx y.vn dx),(8, .slice bk y.kn dk)]) (λj v=>Tm w.heap.size S0 u6 v/\Spo v (.slice bk y.kn dk) y.kn w.heap.size S0/\Spo v (.slice bx y.vn dx) y.vn w.heap.size S0/\j<=y.kn) (λj=>y.kn-j) 0 ⟨Tm.refl _ _ _,hzk,hzx,Ay _⟩ ?_;rintro j vk⟨hm,hzk',hzx',hj⟩ I3 hN3;by_cases hlt:j<y.kn
  ·skip
   rcases id hzk' with⟨_,_,_,q0⟩|⟨g1,c1,cur1,q1,hr1,hsz1,hlo1,hhi1⟩
   ·omega
   ·skip
    cases q1;refine Ht 2 ((j:Int)<(y.kn:Int))<|Hx 17 (og f9 16 2) (.pointer (some ⟨g1,0+j*1,none⟩)) (λ_=>AV 27 _ _ g1 0 j y.kn dk 1 5 rfl (by kernel_rfl) (by kernel_rfl) hlt underlying27 (by kernel_rfl))<|Ha 0 (og f9 16 3) g1 (0+j*1) (.int .u8 99) (λ_=>BO 5 _ _ g1 (0+j*1) _ 5 _ hr1 rfl (by kernel_rfl) (by kernel_rfl) (by omega) rfl rfl (by kernel_rfl)) ?_;intro vS hset;refine Hi 4 ((j:Int)+1) ((j:Int)+1) ?_;exact hN3 2 (j+1) ⟨hm.trans (Tm.of hset.touch hlo1 hhi1),hzk'.set hset hr1,hzx'.set hset hr1,by omega⟩ (by show y.kn-(j+1)<y.kn-j;omega) (λ_=>by kernel_rfl)
  have hjn:j=y.kn:=by omega
  replace hzk:=hzk';replace hzx:=hzx';have hm1:=hm;refine Hf 2 ((j:Int)<(y.kn:Int))<|Ho (X:=Nat) 18 (λj=>[(98, .int .i64 (j:Int)),(97, .int .i64 y.vn),(10, .bool false),(1, .slice aL2 nL2 cL2),(9, .slice bx y.vn dx),(8, .slice bk y.kn dk)]) (λj v=>Tm w.heap.size S0 vk v/\Spo v (.slice bk y.kn dk) y.kn w.heap.size S0/\Spo v (.slice bx y.vn dx) y.vn w.heap.size S0/\j<=y.vn) (λj=>y.vn-j) 0 ⟨Tm.refl _ _ _,hzk,hzx,Ay _⟩ ?_;rintro j vx⟨hm,hzk',hzx',hj⟩ I4 hN4;by_cases hlt:j<y.vn
  ·skip
   rcases id hzx' with⟨_,_,_,q0⟩|⟨g1,c1,cur1,q1,hr1,hsz1,hlo1,hhi1⟩
   ·omega
   ·skip
    cases q1;refine Ht 2 ((j:Int)<(y.vn:Int))<|Hx 17 (og f9 21 2) (.pointer (some ⟨g1,0+j*1,none⟩)) (λ_=>AV 27 _ _ g1 0 j y.vn dx 1 5 rfl (by kernel_rfl) (by kernel_rfl) hlt underlying27 (by kernel_rfl))<|Ha 0 (og f9 21 3) g1 (0+j*1) (.int .u8 99) (λ_=>BO 5 _ _ g1 (0+j*1) _ 5 _ hr1 rfl (by kernel_rfl) (by kernel_rfl) (by omega) rfl rfl (by kernel_rfl)) ?_;intro vS hset;refine Hi 4 ((j:Int)+1) ((j:Int)+1) ?_;exact hN4 2 (j+1) ⟨hm.trans (Tm.of hset.touch hlo1 hhi1),hzk'.set hset hr1,hzx'.set hset hr1,by omega⟩ (by show y.vn-(j+1)<y.vn-j;omega) (λ_=>by kernel_rfl)
  have hjn:j=y.vn:=by omega
  replace hzk:=hzk';replace hzx:=hzx';refine Hf 2 ((j:Int)<(y.vn:Int)) ?_;have hM:=hm1.trans hm;replace hto1:=hto1.trans (Touch.of_below hb7);replace hTt:=hTt.go hb7;replace hPn:=hPn.mono (K':=λb=>(K0 b/\b<w.heap.size)∨S0<=b) (λb hb=>by rcases hb with h|h;exact .inl h;exact .inr (by omega));exact Hr 18 (.tuple #[.slice aL2 nL2 cL2, .bool false]) ⟨_,rfl,⟨aL2,nL2,cL2,vsL2,false,rfl,by rw[show chL l y=delL l y.k from Ad hz];exact(hPn.tm hM (λb hb=>hb.imp (λh=>h.2) id)).mono (λb hb=>hb.imp (λh=>h.1) (λh=>by omega)),λhR=>absurd (show bD=bR from by rw[<-hbD,<-hbR];split;exact(hR.isAt hk.b (by assumption)).symm;rfl) hbb⟩,by rw[show chT t y=delT t y.k from Ad hz];exact(hTt.tm hM (λb hb=>hb.imp (λh=>h.2) id) (.inl hgl)).mono (λb hb=>hb.imp (λh=>h.1) (λh=>by omega)),hM.after hto1⟩
theorem KM{t:Tr}(hT:Tri K0 w g t){l:PList}(hP:PAt K0 w a n c vs l)(hk:Ag w y.ka y.kn y.kc y.k)(hx:Ag w y.va y.vn y.vc y.x)(hbn:n<=2600000000000)(bk0:y.kn<=140737488355328)(bx0:y.vn<=140737488355328)(hlen:∀(j:Nat) k x,l[j]?=some (k,x)->k.length<=1000000):
 Calls prog 9 #[.pointer (some ⟨g,0,none⟩), .slice a n c, .agg #[.int .i64 y.z, .slice y.ka y.kn y.kc, .slice y.va y.vn y.vc]] w λe w'=>∃u,e= .returned u/\(∃a' n' c' vs' b,u= .tuple #[.slice a' n' c', .bool b]/\PAt (λb=>K0 b∨w.heap.size<=b) w' a' n' c' vs' (chL l y)/\(Rel t l->b=true))/\Tri (λb=>K0 b∨w.heap.size<=b) w' g (chT t y)/\Touch g w w':=by
 by_cases hz:y.z=0
 ·exact Ql hT hP hk hx hbn bk0 bx0 hlen hz
 ·exact Qm hT hP hk hx hbn bk0 bx0 hlen hz
end Go.Proofs.YtalhnnjpjaeakaaGreat
