/- The shelf's sort, laid at this program. -/
import Derived.Shelf.SlSortCmp.Whole1
import Derived.Ground.SlsfProg
import Derived.Test.YtkdlocloepbmcaaGreatG18
import Derived.Maps.Keyed
set_option linter.unusedVariables false
set_option linter.unusedSimpArgs false
set_option maxRecDepth 100000
set_option maxHeartbeats 4000000
open Go.Proofs.Tryz Go.RowKit
namespace Go.Proofs.YtkdlocloepbmcaaGreat
section
open Go.Shelf
def sortB_ren:Go.Shelf.Ren:=⟨λ|6=>44|15=>75|14=>74|28=>108|29=>109|20=>100|21=>101|22=>102|23=>103|24=>104|25=>105|26=>106|27=>107|46=>144|47=>145|48=>146|49=>147|50=>148|57=>165|n=>n,λ|22=>30|24=>32|25=>90|3=>3|39=>99|0=>0|53=>176|55=>110|4=>4|46=>170|45=>169|50=>80|5=>5|9=>9|66=>206|70=>210|76=>221|77=>222|n=>n,λ|n=>n⟩
theorem ZZ:Go.Proofs.SlLaysF.n6 prog sortB_ren:={
 mixed:=by kernel_rfl
 f6:=⟨f44.name,by decide,func44.trans (Ao some (by kernel_rfl))⟩
 f14:=⟨f74.name,by decide,func74.trans (Ao some (by kernel_rfl))⟩
 f15:=func75.trans (Ao some (by kernel_rfl))
 f20:=⟨f100.name,by decide,func100.trans (Ao some (by kernel_rfl))⟩
 f21:=⟨f101.name,by decide,func101.trans (Ao some (by kernel_rfl))⟩
 f22:=⟨f102.name,by decide,func102.trans (Ao some (by kernel_rfl))⟩
 f23:=⟨f103.name,by decide,func103.trans (Ao some (by kernel_rfl))⟩
 f24:=⟨f104.name,by decide,func104.trans (Ao some (by kernel_rfl))⟩
 f25:=⟨f105.name,by decide,func105.trans (Ao some (by kernel_rfl))⟩
 f26:=⟨f106.name,by decide,func106.trans (Ao some (by kernel_rfl))⟩
 f27:=⟨f107.name,by decide,func107.trans (Ao some (by kernel_rfl))⟩
 f28:=func108.trans (Ao some (by kernel_rfl))
 f29:=func109.trans (Ao some (by kernel_rfl))
 f46:=⟨f144.name,by decide,func144.trans (Ao some (by kernel_rfl))⟩
 f47:=func145.trans (Ao some (by kernel_rfl))
 f48:=func146.trans (Ao some (by kernel_rfl))
 f49:=⟨f147.name,by decide,func147.trans (Ao some (by kernel_rfl))⟩
 f50:=⟨f148.name,by decide,func148.trans (Ao some (by kernel_rfl))⟩
 f57:=⟨f165.name,by decide,func165.trans (Ao some (by kernel_rfl))⟩
 t0:=υ0
 a0:=isAgg0
 z0:=sizeOf0
 v0:=zeroValue0
 t3:=υ3
 a3:=isAgg3
 z3:=sizeOf3
 v3:=zeroValue3
 t4:=υ4
 a4:=isAgg4
 z4:=sizeOf4
 v4:=zeroValue4
 t5:=υ5
 a5:=isAgg5
 z5:=sizeOf5
 v5:=zeroValue5
 t9:=υ9
 a9:=isAgg9
 z9:=sizeOf9
 v9:=zeroValue9
 t22:=υ30
 a22:=isAgg30
 z22:=sizeOf30
 v22:=zeroValue30
 a24:=isAgg32
 z24:=sizeOf32
 t25:=υ90
 a25:=isAgg90
 z25:=sizeOf90
 v25:=zeroValue90
 t39:=υ99
 a39:=isAgg99
 z39:=sizeOf99
 v39:=zeroValue99
 t45:=υ169
 a45:=isAgg169
 z45:=sizeOf169
 v45:=zeroValue169
 t46:=υ170
 a46:=isAgg170
 z46:=sizeOf170
 v46:=zeroValue170
 t50:=υ80
 a50:=isAgg80
 z50:=sizeOf80
 v50:=zeroValue80
 t53:=υ176
 a53:=isAgg176
 z53:=sizeOf176
 v53:=zeroValue176
 t55:=υ110
 a55:=isAgg110
 z55:=sizeOf110
 v55:=zeroValue110
 t66:=υ206
 a66:=isAgg206
 z66:=sizeOf206
 v66:=zeroValue206
 t70:=υ210
 a70:=isAgg210
 z70:=sizeOf210
 v70:=zeroValue210
 t76:=υ221
 a76:=isAgg221
 z76:=sizeOf221
 v76:=zeroValue221
 t77:=υ222
 a77:=isAgg222
 z77:=sizeOf222
 v77:=zeroValue222}
end
section
open Go.RowKit Go.Proofs
open Go.Sort (Holds putRow putCells)
open Ni (lessP FK)
variable {K : Nat → Prop} {w : World} {α : Type}
abbrev Gp(K:Θ)(w:Γ):Type:={p:Δ×τ//Gd K w p}
def encQ{K:Θ}{w:Γ}(x:Gp K w):Δ:=x.1.1
def ordQ{K:Θ}{w:Γ}(x y:Gp K w):Int:=cmpP x.1.2 y.1.2
theorem ordP_lt(x y:Gp K w):Go.Proofs.ltOf ordQ x y=lessP x.1.2 y.1.2:=cmp_lt _ _
theorem swoP(K:Θ)(w:Γ):Sort.SWO (Go.Proofs.ltOf (ordQ (K:=K) (w:=w))):=⟨λx=>by rw[ordP_lt];exact less_irr _,λx y z c a=>by rw[ordP_lt]at*;exact less_trans _ _ _ c a,λx y z c a=>by
 rw[ordP_lt]at*;cases b:lessP x.1.2 z.1.2 with
 |false=>rfl
 |true=>
  by_cases e:x.1.2=y.1.2
  ·rw[e]at b;rw[b]at a;cases a
  ·have f:=less_tot x.1.2 y.1.2 e c;have d:=less_trans _ _ _ f b;rw[d]at a;cases a⟩
theorem mapBlock_other(w:Γ)(b k:Nat)(f:Ξ->Ξ)(h:k≠b):(Sort.mapBlock w b f).heap[k]?=w.heap[k]?:=by
 unfold Sort.mapBlock;simp[Ep,Ne.symm h]
theorem sortW_touch[Inhabited α](enc:α->Δ)(w:Γ)(gb a:Nat)(d:Array α)(b:Array Obj):Touch gb w (sortWorld enc w gb 0 a d b):=by
 refine⟨rfl,rfl,rfl,?_,λk f e=>?_⟩
 ·simp[sortWorld,putRow,Sort.mapBlock,Sort.grow,Sort.ahead]
 ·show((putRow enc (Sort.ahead w a) gb 0 d).heap++b)[k]?=w.heap[k]?;have c:(putRow enc (Sort.ahead w a) gb 0 d).heap.size=w.heap.size:=by simp[putRow,Sort.mapBlock,Sort.ahead]
  rw[CA (by rw[c];exact f)];exact mapBlock_other (Sort.ahead w a) gb k _ e
theorem sortW_row[Inhabited α](enc:α->Δ)(w:Γ)(gb a:Nat)(d:Array α)(b:Array Obj){cur:Ξ}{T:TypeId}(h:Rw gb w cur T):Rw gb (sortWorld enc w gb 0 a d b) (putCells enc 0 d cur) T:=by
 show((putRow enc (Sort.ahead w a) gb 0 d).heap++b)[gb]?=_;have c:(putRow enc (Sort.ahead w a) gb 0 d).heap.size=w.heap.size:=by simp[putRow,Sort.mapBlock,Sort.ahead]
 rw[CA (by rw[c];exact lt_of_get h)];unfold Rw at h;have e:(Sort.ahead w a).heap[gb]?=some (.cells cur T (0,0)):=h;simp only[putRow,Sort.mapBlock,Ep,e,B7,↓reduceIte];rfl
theorem sort_bytes {gb n cap : Nat} {ps : List (Value × List Int)} {cur : Array Value} (hr : Rw gb w cur 32) (hcur : cur.toList.take n = ps.map Prod.fst) (hsz : cur.size = cap) (hn : ps.length = n) (hle : n ≤ cap) (hg : ∀ p ∈ ps, Gd K w p) (hK : ¬ K gb) (h0 : 0 < n) (hb : n ≤ 7600000000002) :
    Calls Tryz.prog 44 #[.slice (some ⟨gb, 0, none⟩) n cap, .func (.func 45) #[] #[]] w fun e w' => ∃ u, e = .returned u ∧ (fun u w' => u = .tuple #[] ∧ (∃ (ps' : List (Value × List Int)) (cur' : Array Value), ps'.Perm ps ∧ ps'.Pairwise (fun p q => lessP q.2 p.2 = false) ∧ Rw gb w' cur' 32 ∧ cur'.toList.take n = ps'.map Prod.fst ∧ cur'.size = cap) ∧ Touch gb w w') u w' := by
  obtain ⟨xs, hxs⟩ : ∃ xs : List (Gp K w), xs.map Subtype.val = ps := ⟨ps.pmap Subtype.mk hg, by simp [List.map_pmap]⟩
  have hxl : xs.length = n := by rw [← hn, ← hxs, List.length_map]
  have x0 : Gp K w := xs[0]'(by omega)
  haveI : Inhabited (Gp K w) := ⟨x0⟩
  have hsx : xs.toArray.size = n := by simp [hxl]
  have hcell : ∀ j (hj : j < n), cur[j]? = some (encQ (xs[j]'(by omega))) := by
    intro j hj
    have := congrArg (fun l => l[j]?) hcur
    rw [← hxs] at this
    simp only [List.getElem?_take_of_lt hj, List.map_map, List.getElem?_map, Array.getElem?_toList, List.getElem?_eq_getElem (show j < xs.length by omega), Option.map_some] at this
    exact this
  have hH : Holds encQ w gb 0 xs.toArray := by
    intro j hj
    rw [hsx] at hj
    refine ⟨?_, frozen_of_row _ _ _ _ _ hr⟩
    rw [cell_of_row _ _ _ _ _ _ hr, Nat.zero_add, hcell j hj]
    have : xs.toArray[j]! = xs[j]'(by omega) := by simp [hxl, hj]
    rw [this]
  have hcon := Go.Proofs.Any.slices_SortFunc ZZ (encQ (K := K) (w := w)) (fun x => by
      obtain ⟨⟨v, b⟩, a, m, c, e, hs⟩ := x
      show v.oneCell' = true
      rw [show v = .slice a m c from e]; rfl) ordQ (swoP K w) 45 #[] gb 0 cap xs.toArray w (fun args w => by kernel_rfl)
    (fun mm os dk _ x y => by
      obtain ⟨⟨v, b⟩, a, m, c, e, hs⟩ := x
      obtain ⟨⟨v2, b2⟩, a2, m2, c2, e2, hs2⟩ := y
      have ht := sortW_touch (encQ (K := K) (w := w)) w gb mm dk os
      have h1 := bcmp_any (hs.tou ht hK) (hs2.tou ht hK)
      have e : v = .slice a m c := e
      have e2 : v2 = .slice a2 m2 c2 := e2
      subst e e2
      refine (show Calls Tryz.prog 45 (#[.slice a m c, .slice a2 m2 c2] ++ #[]) _ _ from h1).mono ?_
      rintro e w' ⟨rfl, rfl⟩
      exact ⟨rfl, 0, #[], by simp [Sort.grow, World.drewN]⟩) hH (lt_of_get hr) (by rw [hsx]; omega)
  rw [hsx] at hcon
  refine (show Calls Tryz.prog 44 #[.slice (some ⟨gb, 0, none⟩) n cap, .func (.func 45) #[] #[]] w _ from hcon).mono ?_
  rintro e w' ⟨rfl, d', nn, os, hp, hs, rfl⟩
  have hps : d'.size = n := by rw [hp.1, hsx]
  refine ⟨_, rfl, rfl, ⟨d'.toList.map Subtype.val, putCells encQ 0 d' cur, ?_, ?_, sortW_row _ _ _ _ _ _ hr, ?_, ?_⟩, sortW_touch _ _ _ _ _ _⟩
  · have := hp.2.2
    rw [show d'.extract 0 n = d' from by rw [← hps]; simp, show xs.toArray.extract 0 n = xs.toArray from by rw [← hsx]; simp] at this
    rw [← hxs]
    exact this.map _
  · rw [List.pairwise_map, List.pairwise_iff_getElem]
    intro i j hi hj hij
    simp at hi hj
    have h1 := hs i j (Nat.zero_le _) hij (by omega)
    rw [ordP_lt] at h1
    simp only [hi, hj, getElem!_pos] at h1
    simpa using h1
  · apply List.ext_getElem?
    intro j
    by_cases hj : j < n
    · rw [List.getElem?_take_of_lt hj, Array.getElem?_toList]
      have hc : j < cur.size := by omega
      simp only [putCells, Array.getElem?_mapIdx, Array.getElem?_eq_getElem hc, Option.map_some, List.map_map, List.getElem?_map, Array.getElem?_toList]
      rw [if_pos ⟨Nat.zero_le _, by omega⟩, Nat.sub_zero, getElem!_pos d' j (by omega), Array.getElem?_eq_getElem (show j < d'.size by omega)]
      rfl
    · rw [List.getElem?_eq_none (by simp; omega), List.getElem?_eq_none (by simp; omega)]
  · simp [putCells, hsz]
end
section
open Tr
open Ni (lessP)
variable {M : List (List Int)} {w : World} {gW n g : Nat} {a : Option Addr} {K : Nat → Prop}
def insB(b:τ):List τ->List τ
 |[]=>[b]
 |x::r=>if b=x then x::r else if lessP b x then b::x::r else x::insB b r
theorem Mg(b y:τ):∀l:List τ,y∈insB b l↔y=b∨y∈l
 |[]=>by simp[insB]
 |x::r=>by
  have a:=Mg b y r;simp only[insB];by_cases h:b=x
  ·subst h;rw[Ai rfl];simp
  ·rw[Ae h];by_cases k:lessP b x=true
   ·rw[Ai k];simp
   ·rw[Ae k];simp only[Ay,a];constructor
    ·rintro(q|q|q)
     ·exact .inr (.inl q)
     ·exact .inl q
     ·exact .inr (.inr q)
    ·rintro(q|q|q)
     ·exact .inr (.inl q)
     ·exact .inl q
     ·exact .inr (.inr q)
theorem PO(b:τ):∀l:List τ,SrtB l->SrtB (insB b l)
 |[],_=>by simp[insB,SrtB]
 |x::r,h=>by
  obtain⟨c,d⟩:=B5.1 h;simp only[insB];by_cases e:b=x
  ·rw[Ai e];exact h
  ·rw[Ae e];by_cases k:lessP b x=true
   ·rw[Ai k];refine B5.2 ⟨λy a=>?_,h⟩;rcases Ay.1 a with q|q
    ·rw[q];exact k
    ·exact less_trans _ _ _ k (c y q)
   ·rw[Ae k];refine B5.2 ⟨λy a=>?_,PO b r d⟩;rcases(Mg b y r).1 a with q|q
    ·rw[q];exact less_tot _ _ e (by simpa using k)
    ·exact c y q
def insAll(l:List τ)(M:List τ):List τ:=M.foldl (λl b=>insB b l) l
theorem Hg:∀(M l:List τ),SrtB l->SrtB (insAll l M)/\∀y,y∈insAll l M↔y∈l∨y∈M
 |[],l,h=>⟨h,by simp[insAll]⟩
 |b::M,l,h=>by
  have a:=Hg M (insB b l) (PO b l h);refine⟨a.1,λy=>?_⟩;rw[show insAll l (b::M)=insAll (insB b l) M from rfl,a.2,Mg,Ay];constructor
  ·rintro((q|q)|q)
   ·exact .inr (.inl q)
   ·exact .inl q
   ·exact .inr (.inr q)
  ·rintro(q|q|q)
   ·exact .inl (.inr q)
   ·exact .inl (.inl q)
   ·exact .inr q
def nodesP(t:Tr):List τ:=if t.isNo then[]else insAll [] (nmd t++[encT t])
theorem WZ{N:List τ}(b:N.Perm M)(a:N.Pairwise (λp q=>lessP q p=false)):dd N=insAll [] M:=by
 have h:=Hg M [] (by simp[SrtB]);refine MN _ _ (Xa8 _ a) h.1 λx=>?_;rw[Xa7,h.2,b.mem_iff];simp
theorem U4{X:Θ}{w0:Γ}{base:Nat}{vN:Δ}{ns:List τ}(r:Wt w gW base vN X ns){s:Nat}{c:Nat}{b:τ}(hs:Sk (KW gW vN X) w a n c b)(U:Rw s w #[σ a n c] 32)(ab:ns.length+1<=7600000000000)(G:Bl w0 w)(aj:w0.heap.size<=base):
 ∃(gb cap:Nat)(cur:Ξ)(ps:List (Δ×τ))(w':Γ),(∀ty,(Builtin.append_ #[30,30] ty #[vN,σ (ζ s 0) 1 1]).run prog w= .ok (σ (ζ gb 0) (ns.length+1) cap) w')/\Rw gb w' cur 32/\cur.toList.take (ns.length+1)=ps.map Prod.fst/\cur.size=cap/\ps.length=ns.length+1/\ns.length+1<=cap/\(∀p∈ps,Gd (λb=>b≠gb/\X b) w' p)/\ps.map Prod.snd=ns++[b]/\w0.heap.size<=gb/\Bl w0 w':=by
 obtain⟨i,hi,W,I,K⟩:=ZY;have ae:=r.lt;have ai:=r.b;obtain⟨d,z,o,N⟩:=r.o
 obtain⟨v',w',S,Q,h,h4,T⟩:=Kt w base 30 0 32 i (ε) 1 24 υ30 hi W I K rfl (by decide) vN ns.length d z ⟨s,0,none⟩ 1 1 [σ a n c] rfl (λj u l=>by
  cases j with
  |zero=>rw[BO,Aj _ _ _ _ _ _ U];exact l
  |succ j=>simp at l) (λu l=>by rw[Bz.1 l];rfl) (by decide) (by unfold maxLen;omega) (by omega) (by omega)
 obtain⟨ac,Z⟩:=Q;rcases Z with⟨e,v⟩|⟨gb,cap,cur,rfl,al,R,P,ak,O,L⟩
 ·omega
 have H:∀k,vN.ownBlock=some k->w0.heap.size<=k:=by
  intro k f;rcases z.2 with⟨rfl,_⟩|⟨g',aa,ad,rfl,ah,_⟩
  ·cases f
  ·have e:g'=k:=(by simpa[Value.ownBlock]using f);omega
 have B:∀{a':Ω}{t c':Nat}{x:τ},Sk (KW gW vN X) w a' t c' x->Sk (λb=>b≠gb/\X b) w' a' t c' x:=by
  intro a' t c' x g;refine⟨⟨?_,g.ag.nil,g.ag.l,g.ag.b⟩,λy F v=>?_⟩
  ·rcases g.ag.i with q|⟨g',off,D,q2,E,q4,V,C⟩
   ·exact .inl q
   ·refine .inr ⟨g',off,D,q2,E,q4,V,λj m=>?_⟩;rw[<-C j m];have f:=g.k _ D E;exact Av (h.block g' (Al (C j m)) (λe=>f.2.1 e.symm))
  ·have f:=g.k y F v;refine⟨?_,f.2.2⟩;intro e;rcases T with q|q
   ·exact f.2.1 (by rw[<-q,e];rfl)
   ·have h6:=g.old F v;have h7:gb=w.heap.size:=(by simpa[Value.ownBlock]using q);omega
 have J:∀p∈(d++[σ a n c]).zip (ns++[b]),Gd (λb=>b≠gb/\X b) w' p:=by
  intro p Y;obtain⟨j,m,e⟩:=Ez.1 Y;rw[List.getElem_zip]at e;subst e;simp only[List.length_zip,Af,CG]at m;by_cases A:j<d.length
  ·obtain⟨a1,n1,c1,e1,M⟩:=N j d[j] (Ad A);refine⟨a1,n1,c1,?_,?_⟩
   ·show(d++[σ a n c])[j]=_;rw[List.getElem_append_left A];exact e1
   ·show Sk _ _ _ _ _ ((ns++[b])[j]'(by simp;omega));rw[List.getElem_append_left (by omega)];have:ns.getD j []=ns[j]'(by omega):=(by simp[List.getD,show j<ns.length by omega]);rw[<-this];exact B M
  ·obtain rfl:j=d.length:=by omega
   refine⟨a,n,c,?_,?_⟩
   ·show(d++[σ a n c])[d.length]=_;simp
   ·show Sk _ _ _ _ _ ((ns++[b])[d.length]'(by simp;omega));have:(ns++[b])[d.length]'(by simp;omega)=b:=(by simp[o]);rw[this];exact B hs
 have af:(d++[σ a n c]).length=(ns++[b]).length:=by simp[o]
 refine⟨gb,cap,cur,(d++[σ a n c]).zip (ns++[b]),w',λty=>S,R,?_,by rw[O,BE],by simp[o],P,J,?_,?_,?_⟩
 ·rw[List.map_fst_zip (by omega),<-L,BE]
 ·rw[List.map_snd_zip (by omega)]
 ·omega
 ·exact Cr G ⟨h.os,h.tape,h.output,h.size,λk f=>h.block k (BQ f G.size) (λe=>by have:=H k e.symm;omega)⟩
theorem Wt.newX{w':Γ}(X:Θ)(h:New w w' gW #[ε] 77):Wt w' gW gW (ε) X []:=⟨h.row,⟨[],⟨rfl, .inl ⟨rfl,rfl⟩⟩,rfl,λj v a=>by simp at a⟩,Ab _⟩
def RNo(w:Γ)(t:Tr):Δ->Γ->Prop:=λu w'=>(∃a n c,u=σ a n c/\Bt (λb=>w.heap.size<=b/\∀x,a=some x->b≠x.block) w' a n (nodesP t)/\(∀x,a=some x->w.heap.size<=x.block)/\n<=7600000000000)/\Bl w w'
theorem Zk{w w':Γ}{v u r:Δ}{ρ:Φ}{o:Oper}(d:∀ty,(Builtin.append_ #[30,30] ty #[v,u]).run prog w= .ok r w')(x y:Operand)(c:o.op= .call {callee:= .builtin .append,args:=#[x,y],argTypes:=#[30,30]})(b:ρ x=v)(a:ρ y=u):(execOp ρ o).run prog w= .ok (.value r) w':=by
 unfold execOp;simp only[c,resolve,invoke,builtin,AO,AV,A4,BT,Bd,BY,b,a,d]
theorem Bt.mono{K':Θ}(h:Bt K w a n M)(c:∀b,K b->K' b):Bt K' w a n M:=⟨h.len,λj d=>by
 obtain⟨g,off,a',n',c',e,i,f⟩:=h.row j d;exact⟨g,off,a',n',c',e,i,f.mono c⟩⟩
theorem Xa(c:Rw g w #[ν] 71):
 κ 20 #[π g] w λu w'=>RNo w no u w':=by
 have a:=Bl.refl w;refine Ck func20 25<|Hl 11 c 0 69 (ν) ?_;exact Hr 11 (ε) ⟨_,rfl,⟨none,0,0,rfl,⟨rfl,λj d=>by omega⟩,(λx b=>by cases b),by omega⟩,a⟩
theorem U5{t:Tr}{T0:TypeId}{v0:Δ}(l:Rw g w #[.iface T0 v0] 71)(o:TA K w t (.iface T0 v0))(hO:Tr.Ok 64 t)(C:t≠no)(J:(nmd t).length+1<=7600000000000):
 κ 20 #[π g] w λu w'=>RNo w t u w':=by
 have a:=Bl.refl w;refine Ck func20 25<|Hl 11 l 0 69 (.iface T0 v0)<|Hn 8 #[ε] 77 ?_;intro wW gW j _;have af:=a.size;have ah:=j.hg;have G:=Wt.newX (λb=>w.heap.size<=b) j;replace a:=a.go j.below;have H:=a;replace l:=l.go j.below;refine Hl 7 l 0 69 (.iface T0 v0) ?_;replace o:=o.old.go j.below;refine Hc 0 (R:=REn wW gW gW (ε) (λb=>w.heap.size<=b) [] t) (Ow C (SE t hO (by omega)) (o.mono (K':=KW gW (ε) (λ_=>True)) (λb c=>⟨by omega,by simp[Value.ownBlock],trivial⟩)) G (λb c=>Au H.size c) (by simpa using J)) ?_;rintro _ u1⟨O,P,c2,vM,rfl,i,f,hG,ae⟩;replace a:=hG.below a (by omega) rfl;clear l o G;rw[AH]at f;replace i:Sk (KW gW vM (λb=>w.heap.size<=b)) u1 O P c2 (encT t):=i.mono (λb c=>⟨c.1,c.2.1,Au H.size c.2.2⟩);refine Hl 6 f.r 0 30 (vM)<|M6 1 #[σ O P c2] 32 1 ?_;intro wL gL r N;replace a:=a.go r.below;replace i:=i.go r.below;replace f:=f.go r.below;obtain⟨gb,cap,cur,ps,wA,V,aa,X,S,v,B,D,U,y,F⟩:=U4 f i N J a (by omega);refine Hx 0 (og f20 5 4) (σ (ζ gb 0) ((nmd t).length+1) cap) (λ_=>Zk V _ _ rfl (by kernel_rfl) (by kernel_rfl)) ?_;clear a i f N;refine Hc 6 (R:=λu w'=>u=θ #[]/\(∃(d:List (Δ×τ))(n:Ξ),d.Perm ps/\d.Pairwise (λp q=>lessP q.2 p.2=false)/\Rw gb w' n 32/\n.toList.take ((nmd t).length+1)=d.map Prod.fst/\n.size=cap)/\Touch gb wA w') (sort_bytes aa X S v B D (λh=>h.1 rfl) (by omega) (by omega)) ?_;rintro _ z⟨rfl,⟨d,n,m,Q,ac,Z,W⟩,E⟩;have Y:∀p∈d,Gd (λb=>b≠gb/\w.heap.size<=b) z p:=λp hp=>(D p (m.mem_iff.1 hp)).tou E (λh=>h.1 rfl);have I:Bl w z:=E.below F y F.size;refine Hc 5 (R:=λu w'=>∃k,u=σ (ζ gb 0) k cap/\Bt (λb=>b≠gb/\w.heap.size<=b) w' (ζ gb 0) k (dd (d.map Prod.snd))/\Touch gb z w') (PM ac Z W (by rw[m.length_eq,v]) B Y (λh=>h.1 rfl) (by omega)) ?_;rintro _ u3⟨L,rfl,s,T⟩;have ad:Bl w u3:=T.below I y I.size;have ab:dd (d.map Prod.snd)=nodesP t:=by
  rw[WZ (M:=nmd t++[encT t]) (by rw[<-U];exact m.map _) (Dj.2 Q)];unfold nodesP;rw[Ae (λe=>C (isNo_iff.1 e))]
 have ai:L<=(nmd t).length+1:=by rw[<-s.len];refine Au (Xa9 _) ?_;rw[AQ,m.length_eq,v];exact Ab _
 rw[ab]at s;exact Hr 4 (σ (ζ gb 0) L cap) ⟨_,rfl,⟨_,_,_,rfl,s.mono (λb c=>⟨c.2,λx A=>by cases A;exact c.1⟩),(λx A=>by cases A;exact y),by omega⟩,ad⟩
theorem U6{t:Tr}(h:Tri K w g t)(e:(nmd t).length+1<=7600000000000):
 κ 20 #[π g] w λu w'=>RNo w t u w':=by
 obtain⟨⟨v,a,b⟩,f⟩:=h;rcases f with rfl|d
 ·rw[show v=ν from b]at a;exact Xa a
 ·have c:=d.ne;obtain⟨T0,v0,rfl⟩:=b.iface c;exact U5 a b d c e
end
namespace Pa
inductive Pt where
 |no:Pt
 |st (d:τ):Pt
 |leaf (p v:τ):Pt
 |ext (p:τ) (c:Pt):Pt
 |br (k:Nat->Pt) (v:τ):Pt
namespace Pt
def isNo:Pt->Bool
 |no=>true
 |_=>false
def isBr:Pt->Bool
 |br _ _=>true
 |_=>false
def upd(k:Nat->Pt)(i:Nat)(t:Pt):Nat->Pt:=λj=>if j=i then t else k j
def nk:Nat->Pt:=λ_=>no
def plus(k:Nat->Pt)(x:τ)(q v:τ):Pt:=match q with
 |[]=>br k v
 |i::r=>br (upd k i.toNat (leaf r v)) x
def plusT(t:Pt)(q v:τ):Pt:=match t with
 |br k x=>plus k x q v
 |t=>t
def und(p:τ)(t:Pt):Pt:=if p=[]then t else match t with
 |leaf q v=>leaf (p++q) v
 |ext q c=>ext (p++q) c
 |t=>ext p t
def bhd(p:τ)(c:Pt)(n:Nat):Pt:=if n=p.length then c else ext (p.drop n) c
def wit(t:Pt)(q v:τ):Pt:=match t with
 |leaf p x=>if p=q then leaf q v else und (q.take (Ni.com p q)) (plusT (plus nk [] (p.drop (Ni.com p q)) x) (q.drop (Ni.com p q)) v)
 |ext p c=>und (q.take (Ni.com p q)) (plus (upd nk (p.getD (Ni.com p q) 0).toNat (bhd p c (Ni.com p q+1))) [] (q.drop (Ni.com p q)) v)
 |br k x=>plus k x q v
 |_=>leaf q v
def fitP:Pt->Nat->Bool
 |leaf p _,l=>decide (l+p.length<=64)
 |ext p c,l=>decide (l+p.length<=64)&&fitP c (l+p.length)
 |br k _,l=>(List.range 16).all (λi=>fitP (k i) (l+1))&&decide (l<=64)
 |_,_=>true
def kidsN(k:Nat->Pt):Nat->Nat
 |0=>0
 |n+1=>kidsN k n+if(k n).isNo then 0 else 1
def lastN(k:Nat->Pt):Nat->Nat
 |0=>0
 |n+1=>if(k n).isNo then lastN k n else n
end Pt
open Pt
abbrev Kn:=List (τ×Pt)
def findK(d:τ):Kn->Option Pt
 |[]=>none
 |x::r=>if x.1=d then some x.2 else findK d r
structure Sp where
 t:Pt
 l:Nat
 c:Bool
def lookP(kn:Kn)(s:Sp):Option Pt:=match s.t with
 |st d=>match findK d kn with
  |none=>none
  |some u=>if(s.c&&!isBr u)||!fitP u s.l then none else some u
 |t=>some t
def nextP(path:τ)(s:Sp):Option Sp:=match s.t with
 |ext p c=>if(path.drop s.l).take p.length=p then some ⟨c,s.l+p.length,true⟩else none
 |br k _=>match path.drop s.l with
  |[]=>none
  |i::_=>some ⟨k i.toNat,s.l+1,false⟩
 |_=>none
def valS(path:τ)(s:Sp):τ:=match s.t with
 |leaf p x=>if p=path.drop s.l then x else[]
 |br _ x=>x
 |_=>[]
def walkP(kn:Kn)(path:τ):Nat->Sp->Option (List Sp)
 |0,_=>none
 |f+1,s=>match lookP kn s with
  |none=>none
  |some u=>match nextP path ⟨u,s.l,s.c⟩with
   |none=>some [⟨u,s.l,s.c⟩]
   |some s2=>match walkP kn path f s2 with
    |none=>none
    |some r=>some (⟨u,s.l,s.c⟩::r)
def nrmP(kn:Kn)(k:Nat->Pt)(x:τ)(l:Nat):Option Pt:=
 if kidsN k 16=0 then some (leaf [] x)
 else if 1<kidsN k 16∨0<x.length then some (br k x)
 else match lookP kn ⟨k (lastN k 16),l+1,false⟩with
  |none=>none
  |some u=>some (und [((lastN k 16:Nat):Int)] (if isBr u then k (lastN k 16)else u))
def remP(kn:Kn)(path:τ):List Sp->Pt->Option Pt
 |[],t=>some t
 |s::r,t=>match s.t with
  |ext p _=>remP kn path r (und p t)
  |br k x=>match nrmP kn (upd k (path.getD s.l 0).toNat t) x s.l with
   |none=>none
   |some u=>remP kn path r u
  |_=>remP kn path r t
def s0:Sp:=⟨no,0,false⟩
def wayP(kn:Kn)(t:Pt)(path:τ):Option (List Sp):=walkP kn path (path.length+1) ⟨t,0,false⟩
def endS(way:List Sp):Sp:=way.getD (way.length-1) s0
def getP(kn:Kn)(t:Pt)(key:τ):τ×Int:=if 32<key.length then([],70)else
 match wayP kn t (Ni.nib key)with
 |none=>([],2)
 |some way=>(valS (Ni.nib key) (endS way),0)
def putQ(kn:Kn)(t:Pt)(key v:τ):Pt×Int:=if 32<key.length then(t,70)else if v.length=0∨256<v.length then(t,71)else
 match wayP kn t (Ni.nib key)with
 |none=>(t,2)
 |some way=>match remP kn (Ni.nib key) (way.take (way.length-1)).reverse (wit (endS way).t ((Ni.nib key).drop (endS way).l) v)with
  |none=>(t,2)
  |some u=>(u,0)
def woP(kn:Kn)(s:Sp):Option Pt:=match s.t with
 |br k _=>nrmP kn k [] s.l
 |_=>some no
def delQ(kn:Kn)(t:Pt)(key:τ):Pt×Bool×Int:=if 32<key.length then(t,false,70)else
 match wayP kn t (Ni.nib key)with
 |none=>(t,false,2)
 |some way=>if(valS (Ni.nib key) (endS way)).length=0 then(t,false,0)else
  match woP kn (endS way)with
  |none=>(t,false,2)
  |some u=>match remP kn (Ni.nib key) (way.take (way.length-1)).reverse u with
   |none=>(t,false,2)
   |some r=>(r,true,0)
def nibs(p:τ):Prop:=∀x∈p,0<=x/\x<16
def Wg:Pt->Θ
 |no,_=>True
 |st _,_=>True
 |leaf p x,l=>l+p.length<=64/\nibs p
 |ext p c,l=>l+p.length<=64/\nibs p/\p≠[]/\Wg c (l+p.length)
 |br k x,l=>l<=64/\∀i,i<16->Wg (k i) (l+1)
def Wn:Nat->Pt->Prop
 |_,no=>True
 |_,st _=>True
 |_,leaf p x=>nibs p/\p.length<=64
 |m+1,ext p c=>nibs p/\p≠[]/\p.length<=64/\Wn m c
 |m+1,br k x=>∀i,i<16->Wn m (k i)
 |0,_=>False
theorem Wn.wg:∀{m:Nat}{t:Pt}{l:Nat},Wn m t->fitP t l=true->Wg t l:=by
 intro m
 induction m with
 |zero=>
  intro t l h a;cases t with
  |no=>exact trivial
  |st d=>exact trivial
  |leaf p x=>exact⟨B6 a,h.1⟩
  |ext p c=>exact h.elim
  |br k x=>exact h.elim
 |succ m e=>
  intro t l h a;cases t with
  |no=>exact trivial
  |st d=>exact trivial
  |leaf p x=>exact⟨B6 a,h.1⟩
  |ext p c=>
   simp only[fitP,BZ,Co]at a;exact⟨a.1,h.1,h.2.1,e h.2.2.2 a.2⟩
  |br k x=>
   simp only[fitP,BZ,Co,Dw,Da]at a;exact⟨a.2,λi b=>e (h i b) (a.1 i b)⟩
def Pt.isNd:Pt->Bool
 | .no=>false
 | .st _=>false
 |_=>true
theorem XbP{t:Pt}{l:Nat}(h:t.isNd=true)(a:fitP t l=true):l<=64:=by
 cases t with
 |no=>cases h
 |st d=>cases h
 |leaf p x=>have:=B6 a;omega
 |ext p c=>simp only[fitP,BZ,Co]at a;omega
 |br k x=>simp only[fitP,BZ,Co]at a;exact a.2
theorem Xaa{t:Pt}{l:Nat}(h:t.isNd=true)(a:Wg t l):l<=64:=by
 cases t with
 |no=>cases h
 |st d=>cases h
 |leaf p x=>have:=a.1;omega
 |ext p c=>have:=a.1;omega
 |br k x=>exact a.1
def KnOk(kn:Kn):Prop:=∀x∈kn,Wn 34 x.2/\x.2.isNd=true
theorem FI{d:τ}:∀{kn:Kn}{u:Pt},findK d kn=some u->∃x∈kn,x.2=u
 |x::r,u,h=>by
  unfold findK at h;split at h
  ·cases h;exact⟨x,by simp,rfl⟩
  ·obtain⟨y,a,e⟩:=FI h;exact⟨y,Az _ a,e⟩
theorem JA{kn:Kn}(e:KnOk kn){s:Sp}{u:Pt}(h:Wg s.t s.l)(a:lookP kn s=some u):Wg u s.l:=by
 unfold lookP at a;split at a
 ·rename_i d hd;cases b:findK d kn with
  |none=>rw[b]at a;cases a
  |some t=>
   rw[b]at a;simp only at a;split at a
   ·cases a
   ·rename_i c;cases a;obtain⟨x,f,rfl⟩:=FI b;simp only[Bool.or_eq_true,DL,not_or,Bool.not_eq_false]at c;exact(e x f).1.wg c.2
 ·cases a;exact h
theorem Ox{b:τ}{s d:Sp}(h:Wg s.t s.l)(l:s.l<=b.length)(a:nextP b s=some d)(j:nibs b):Wg d.t d.l/\d.l<=b.length/\s.l<d.l:=by
 unfold nextP at a;split at a
 ·rename_i p c e;rw[e]at h;split at a
  ·rename_i f;cases a;have g:=Ao List.length f;rw[Ap,A3]at g;have m:0<p.length:=BH.2 h.2.2.1;exact⟨h.2.2.2,by simp only;omega,by simp only;omega⟩
  ·cases a
 ·rename_i k x e;rw[e]at h;split at a
  ·cases a
  ·rename_i i r f;cases a;have g:=Ao List.length f;rw[A3,AE]at g;have n:=j i (BA (by rw[f];simp:i∈b.drop s.l));exact⟨h.2 _ (by omega),by simp only;omega,by simp only;omega⟩
 ·cases a
theorem No{p:τ}(h:nibs p)(n:Nat):nibs (p.take n):=λx a=>h x (Bb a)
theorem Db{p:τ}(h:nibs p)(n:Nat):nibs (p.drop n):=λx a=>h x (BA a)
theorem PP{p q:τ}(h:nibs p)(b:nibs q):nibs (p++q):=λx a=>(AP.1 a).elim (h x) (b x)
theorem Oy{p:τ}{t:Pt}{l:Nat}(h:Wg t (l+p.length))(d:l+p.length<=64)(a:nibs p):Wg (und p t) l:=by
 unfold und;split
 ·rename_i e;subst e;exact h
 ·rename_i b;split
  ·exact⟨by rw[Af];have:=h.1;omega,PP a h.2⟩
  ·rename_i q c;obtain⟨j,f,i,g⟩:=h;exact⟨by rw[Af];omega,PP a f,by simp[i],by rw[Af,<-C4];exact g⟩
  ·exact⟨d,a,b,h⟩
theorem Gf{k:Nat->Pt}{l i:Nat}{t:Pt}(h:∀j,j<16->Wg (k j) l)(b:Wg t l):∀j,j<16->Wg (upd k i t j) l:=λj a=>by
 unfold upd;split
 ·exact b
 ·exact h j a
theorem JB{k:Nat->Pt}{x q v:τ}{l:Nat}(h:∀j,j<16->Wg (k j) (l+1))(a:l+q.length<=64)(c:nibs q):Wg (plus k x q v) l:=by
 unfold plus;split
 ·exact⟨by simpa using a,h⟩
 ·rename_i i r;rw[AE]at a;exact⟨by omega,Gf h ⟨by omega,λy b=>c y (Az _ b)⟩⟩
theorem SF(l:Nat):∀j,j<16->Wg (nk j) l:=λ_ _=>trivial
theorem PQ{k:Nat->Pt}{x q v q' v':τ}{l:Nat}(h:∀j,j<16->Wg (k j) (l+1))(d:l+q.length<=64)(c:nibs q)(a:l+q'.length<=64)(b:nibs q'):Wg (plusT (plus k x q v) q' v') l:=by
 cases q with
 |nil=>exact JB h a b
 |cons i r=>
  rw[AE]at d;exact JB (Gf h ⟨by omega,λy e=>c y (Az _ e)⟩) a b
theorem Xb{p:τ}{c:Pt}{n l:Nat}(h:Wg c (l+p.length))(b:l+p.length<=64)(a:nibs p)(d:n<=p.length):Wg (bhd p c n) (l+n):=by
 unfold bhd;split
 ·rename_i e;rw[e];exact h
 ·rename_i e;refine⟨by rw[A3];omega,Db a n,λq=>?_,by rw[A3,show l+n+(p.length-n)=l+p.length by omega];exact h⟩;have:=Ao List.length q;rw[A3,BV]at this;omega
theorem lastN_lt(k:Nat->Pt):∀n,0<n->lastN k n<n
 |0,h=>by omega
 |n+1,_=>by
  unfold lastN;split
  ·cases n with
   |zero=>simp[lastN]
   |succ n=>have:=lastN_lt k (n+1) (by omega);omega
  ·omega
theorem Mh(k:Nat->Pt):∀n,0<kidsN k n->(k (lastN k n)).isNo=false
 |0,h=>by simp[kidsN]at h
 |n+1,h=>by
  unfold lastN;unfold kidsN at h;cases hq:(k n).isNo with
  |true=>rw[hq]at h;simpa using Mh k n (by simpa using h)
  |false=>simpa using hq
theorem SG{kn:Kn}(g:KnOk kn){s:Sp}{u:Pt}(h:s.t.isNo=false)(a:lookP kn s=some u):u.isNd=true:=by
 unfold lookP at a;split at a
 ·rename_i d hd;cases b:findK d kn with
  |none=>rw[b]at a;cases a
  |some t=>
   rw[b]at a;simp only at a;split at a
   ·cases a
   ·cases a;obtain⟨x,i,rfl⟩:=FI b;exact(g x i).2
 ·rename_i f;cases a;cases e:s.t with
  |no=>rw[e]at h;cases h
  |st d=>exact absurd e (f d)
  |leaf p x=>rfl
  |ext p c=>rfl
  |br k x=>rfl
theorem Rn{kn:Kn}(e:KnOk kn){k:Nat->Pt}{x:τ}{l:Nat}{u:Pt}(f:l<=64)(h:∀i,i<16->Wg (k i) (l+1))(a:nrmP kn k x l=some u):Wg u l:=by
 unfold nrmP at a;split at a
 ·cases a;exact⟨by simpa using f,λy c=>by cases c⟩
 ·split at a
  ·cases a;exact⟨f,h⟩
  ·have d:=lastN_lt k 16 (by omega);cases b:lookP kn ⟨k (lastN k 16),l+1,false⟩with
   |none=>rw[b]at a;cases a
   |some t=>
    rw[b]at a;cases a;have g:=JA e (h _ d) b;have j:nibs [((lastN k 16:Nat):Int)]:=λy c=>by rw[Bz.1 c];omega
    have n:Wg (if isBr t then k (lastN k 16)else t) (l+1):=by
     split
     ·exact h _ d
     ·exact g
    have m:l+1<=64:=Xaa (SG e (Mh k 16 (by omega)) b) g;exact Oy n (by simpa using m) j
def WayOk(path:τ)(way:List Sp):Prop:=∀s∈way,Wg s.t s.l/\s.l<=path.length
theorem SH{kn:Kn}(m:KnOk kn){b:τ}(l:nibs b):∀{f:Nat}{s:Sp}{c:List Sp},Wg s.t s.l->s.l<=b.length->walkP kn b f s=some c->WayOk b c/\0<c.length:=by
 intro f
 induction f with
 |zero=>intro s c h e a;cases a
 |succ f q=>
  intro s c h e a;unfold walkP at a;cases g:lookP kn s with
  |none=>rw[g]at a;cases a
  |some u=>
   rw[g]at a;simp only at a;have j:=JA m h g;cases k:nextP b ⟨u,s.l,s.c⟩with
   |none=>rw[k]at a;cases a;exact⟨λx d=>by rw[Bz.1 d];exact⟨j,e⟩,by simp⟩
   |some p=>
    rw[k]at a;simp only at a;obtain⟨o,n,t⟩:=Ox (s:=⟨u,s.l,s.c⟩) j e k l;cases i:walkP kn b f p with
    |none=>rw[i]at a;cases a
    |some r=>
     rw[i]at a;cases a;refine⟨λx d=>?_,by simp⟩;rcases Ay.1 d with rfl|d
     ·exact⟨j,e⟩
     ·exact(q o n i).1 x d
theorem Xc{kn:Kn}{c:τ}:∀{f:Nat}{s:Sp}{d:List Sp},walkP kn c f s=some d->nextP c (endS d)=none:=by
 intro f
 induction f with
 |zero=>intro s d a;cases a
 |succ f i=>
  intro s d a;unfold walkP at a;cases g:lookP kn s with
  |none=>rw[g]at a;cases a
  |some u=>
   rw[g]at a;simp only at a;cases e:nextP c ⟨u,s.l,s.c⟩with
   |none=>rw[e]at a;cases a;exact e
   |some h=>
    rw[e]at a;simp only at a;cases b:walkP kn c f h with
    |none=>rw[b]at a;cases a
    |some r=>
     rw[b]at a;cases a;have:=i b;cases r with
     |nil=>cases f with
      |zero=>cases b
      |succ f=>unfold walkP at b;split at b<;>(try cases b);split at b<;>(try cases b);split at b<;>cases b
     |cons y r=>simpa[endS]using this
theorem PS{p q:τ}(h:Ni.com p q=p.length):q.take p.length=p:=by
 have:=Ni.com_take p q;rw[h,Dv]at this;exact this.symm
theorem IN{t:Pt}{q v:τ}{l:Nat}(h:Wg t l)(f:l+q.length<=64)(a:nibs q)(g:∀p c,t=ext p c->q.take p.length≠p):Wg (wit t q v) l:=by
 cases t with
 |no=>exact⟨f,a⟩
 |st d=>exact⟨f,a⟩
 |br k x=>exact JB h.2 f a
 |leaf p x=>
  unfold wit;simp only;split
  ·exact⟨f,a⟩
  ·have i:=Ni.com_le p q;have b:(q.take (Ni.com p q)).length=Ni.com p q:=(by rw[Ap];omega);refine Oy ?_ (by rw[b];omega) (No a _);rw[b];exact PQ (SF _) (by rw[A3];have:=h.1;omega) (Db h.2 _) (by rw[A3];omega) (Db a _)
 |ext p c=>
  unfold wit;simp only;have i:=Ni.com_le p q;have j:Ni.com p q≠p.length:=λe=>g p c rfl (PS e);have b:(q.take (Ni.com p q)).length=Ni.com p q:=by rw[Ap];omega
  refine Oy ?_ (by rw[b];omega) (No a _);rw[b];refine JB (Gf (SF _) ?_) (by rw[A3];omega) (Db a _);have:=Xb (n:=Ni.com p q+1) h.2.2.2 h.1 h.2.1 (by omega);rw[show l+Ni.com p q+1=l+(Ni.com p q+1)by omega];exact this
def Desc(path:τ):List Sp->Θ
 |[],l=>l=0
 |s::r,l=>s.l<l/\(match s.t with
  |ext p _=>l=s.l+p.length
  |br _ _=>l=s.l+1/\s.l<path.length
  |_=>False)/\Wg s.t s.l/\Desc path r s.l
theorem U7{kn:Kn}(o:KnOk kn){e:τ}(w:nibs e):∀{f:Nat}{s:Sp}{g R:List Sp},Wg s.t s.l->s.l<=e.length->walkP kn e f s=some g->Desc e R s.l->Desc e ((g.take (g.length-1)).reverse++R) (endS g).l:=by
 intro f
 induction f with
 |zero=>intro s g R h A a;cases a
 |succ f G=>
  intro s g R h A a hd;unfold walkP at a;cases n:lookP kn s with
  |none=>rw[n]at a;cases a
  |some u=>
   rw[n]at a;simp only at a;have B:=JA o h n;cases b:nextP e ⟨u,s.l,s.c⟩with
   |none=>rw[b]at a;cases a;exact hd
   |some v=>
    rw[b]at a;simp only at a;obtain⟨z,t,H⟩:=Ox (s:=⟨u,s.l,s.c⟩) B A b w;cases m:walkP kn e f v with
    |none=>rw[m]at a;cases a
    |some r=>
     rw[m]at a;cases a;have C:=(SH o w z t m).2;have D:Desc e (⟨u,s.l,s.c⟩::R) v.l:=by
      refine⟨H,?_,B,hd⟩;unfold nextP at b;cases u with
      |no=>cases b
      |st d=>cases b
      |leaf p x=>cases b
      |ext p c=>
       simp only at b⊢;split at b
       ·cases b;rfl
       ·cases b
      |br k x=>
       simp only at b⊢;split at b
       ·cases b
       ·rename_i i q E;cases b;have:=Ao List.length E;rw[A3,AE]at this;exact⟨rfl,by omega⟩
     have:=G z t m D;obtain⟨y,j,rfl⟩:∃y j,r=y::j:=by
      cases r with
      |nil=>simp at C
      |cons y j=>exact⟨y,j,rfl⟩
     have F:endS (⟨u,s.l,s.c⟩::y::j)=endS (y::j):=(by simp[endS]);rw[F];simpa using this
def thG(g:PR->Pt)(n:PN):Pt:=if n.k=1 then leaf n.p n.v else if n.k=2 then ext n.p (g n.c)else br (λi=>g (n.ks.getD i r0)) n.v
def nmN:Nat->PR->Pt
 |0,_=>no
 |f+1,r=>if r.k=1 then thG (nmN f) ((ND r.i).getD n0)else if r.k=2 then st r.d else no
def TH(n:PN):Pt:=thG (nmN 33) n
theorem Mi{p:τ}(b:isB p)(h:Ni.rightP p=true):nibs p:=λx a=>⟨(b x a).1,by have:=Ni.rightP_iff.1 h x a;omega⟩
theorem Xab(n:PN):(TH n).isNd=true:=by
 unfold TH thG;split
 ·rfl
 ·split<;>rfl
theorem Xd{g:PR->Pt}{n:PN}{m:Nat}(b:okN n)(h:NR n=true)(a:∀r,(r=n.c∨r∈n.ks)->Wn m (g r)):Wn (m+1) (thG g n):=by
 unfold thG;rcases EA h with h|h|h
 ·rw[Ai h.1];exact⟨Mi b.1 h.2.2.1,h.2.1⟩
 ·rw[Ae (by omega),Ai h.1];exact⟨Mi b.1 h.2.2.2.1,λe=>by rw[e]at h;simp at h,h.2.2.1,a _ (.inl rfl)⟩
 ·rw[Ae (by omega),Ae (by omega)];intro i d;refine a _ (.inr ?_);have c:n.ks.length=16:=h.2.2.2.2.2.1;rw[List.getD,Ad (by omega)];exact Bh _
theorem Oz{n:PN}(h:NR n=true):∀r,(r=n.c∨r∈n.ks)->rrefP KD r=true:=by
 intro r a;rcases EA h with h|h|h
 ·rcases a with rfl|a
  ·exact h.2.2.2.2.2.1
  ·rw[h.2.2.2.2.2.2.2]at a;cases a
 ·rcases a with rfl|a
  ·exact h.2.2.2.2.2.1
  ·rw[h.2.2.2.2.2.2.2]at a;cases a
 ·rcases a with rfl|a
  ·exact h.2.2.2.1
  ·exact h.2.2.2.2.2.2.1 r a
theorem PT{n:PN}(h:okN n):∀r,(r=n.c∨r∈n.ks)->okR r:=by
 intro r a;rcases a with rfl|a
 ·exact h.2.2.1
 ·exact h.2.2.2 r a
theorem Xac:∀(f:Nat)(r:PR),okR r->rrefP KD r=true->Wn f (nmN f r)
 |0,r,_,_=>trivial
 |f+1,r,g,h=>by
  unfold nmN;split
  ·rename_i j;have i:KD r.i≠0:=by
    rcases Fc h with h|h|h
    ·omega
    ·omega
    ·exact h.2.2.2
   obtain⟨m,a,_⟩:=Ih i;rw[a];have e:=L5 g.2.2 a;have c:=(Gk g.2.2 a).1;exact Xd e c λb d=>Xac f b (PT e b d) (Oz c b d)
  ·split<;>exact trivial
theorem Xad{n:PN}(a:okN n)(h:NR n=true):Wn 34 (TH n):=Xd a h λr b=>Xac 33 r (PT a r b) (Oz h r b)
def knP:List τ->Kn->Kn
 |[],kn=>kn
 |b::r,kn=>knP r (match findK (Di.dref b) kn with
  |some _=>kn
  |none=>match ND b with
   |none=>kn
   |some n=>kn++[(Di.dref b,TH n)])
theorem Ro:∀(ns:List τ){kn:Kn},(∀b∈ns,isB b)->KnOk kn->KnOk (knP ns kn)
 |[],kn,_,h=>h
 |b::r,kn,c,h=>by
  unfold knP;refine Ro r (λx a=>c x (Az _ a)) ?_;split
  ·exact h
  ·split
   ·exact h
   ·rename_i n d;intro x a;rcases AP.1 a with a|a
    ·exact h x a
    ·rw[Bz.1 a];exact⟨Xad (L5 (c b (by simp)) d) (Gk (c b (by simp)) d).1,Xab n⟩
section
open Go.ChangeMaps (setBlock)
open Di (dref)
open Pt
abbrev An:Θ:=λ_=>True
theorem _root_.Go.Proofs.YtkdlocloepbmcaaGreat.Sk.any{K:Θ}{w:Γ}{a:Ω}{n c:Nat}{bs:τ}(h:Sk K w a n c bs):Sk An w a n c bs:=⟨h.ag,λ_ _ _=>trivial⟩
theorem _root_.Go.Proofs.YtkdlocloepbmcaaGreat.Ag.sk{w:Γ}{a:Ω}{n c:Nat}{bs:τ}(h:Ag w a n c bs):Sk An w a n c bs:=⟨h,λ_ _ _=>trivial⟩
def ThA(w:Γ):Pt->Δ->Prop
 |no,v=>v=ν
 |st d,v=>v= .iface 88 (γ (B8 d))/\d.length=32/\isB d
 |leaf p x,v=>∃a n c a' n' c',v= .iface 157 (γ #[σ a n c,σ a' n' c'])/\Sk An w a n c p/\Sk An w a' n' c' x/\n'<=256/\n<=140737488351232
 |ext p t,v=>∃a n c u,v= .iface 167 (γ #[σ a n c,u])/\Sk An w a n c p/\n<=140737488351232/\ThA w t u
 |br k x,v=>∃vs a n c,v= .iface 160 (γ (brc vs (σ a n c)))/\(∀i,i<16->ThA w (k i) (vs i))/\Sk An w a n c x/\n<=256
def HasB(o:Obj):Prop:=match o with
 | .cells cs _ _=>∃(j:Nat)(x:Int),cs[j]?=some (η x)
 |_=>False
def Nt(w w':Γ):Prop:=∀(g j:Nat)(x:Int),w.cell? ⟨g,j,none⟩=some (η x)->w'.cell? ⟨g,j,none⟩=some (η x)
theorem Nt.trans{w1 b c:Γ}(h:Nt w1 b)(d:Nt b c):Nt w1 c:=λg j x a=>d g j x (h g j x a)
theorem Nt.below{w w':Γ}(h:Λ w w'):Nt w w':=λg j x a=>(Av (w:=w) (h.block g (Al a))).trans a
theorem Np{w:Γ}{g o:Nat}{x:Int}(h:w.cell? ⟨g,o,none⟩=some (η x)):∃c,w.heap[g]?=some c/\HasB c:=by
 have a:=Al h;refine⟨w.heap[g]'a,Bw a,?_⟩;cases b:w.heap[g]'a with
 |cells cs t e=>
  have d:w.heap[g]?=some (.cells cs t e):=by rw[Bw a,b]
  rw[Aj _ _ _ _ _ _ d]at h;exact⟨o,x,h⟩
 |_=>exfalso;simp[World.cell?,Bw a,b]at h
theorem Nt.touch{g:Nat}{w w':Γ}(h:Touch g w w')(f:∀o,w.heap[g]?=some o->¬HasB o):Nt w w':=λk j x a=>by
 by_cases e:k=g
 ·subst e;obtain⟨b,c,d⟩:=Np a;exact absurd d (f b c)
 ·exact(Av (w:=w) (h.block k (Al a) e)).trans a
theorem Nt.of_obj{w w':Γ}(h:∀(g:Nat)(o:Obj),w.heap[g]?=some o->HasB o->w'.heap[g]?=some o):Nt w w':=λg j x a=>by
 obtain⟨d,b,c⟩:=Np a;exact(Av (w:=w) ((h g d b c).trans b.symm)).trans a
theorem _root_.Go.Proofs.YtkdlocloepbmcaaGreat.Ag.nt{w w':Γ}{a:Ω}{n c:Nat}{bs:τ}(h:Ag w a n c bs)(o:Nt w w'):Ag w' a n c bs:=by
 refine⟨?_,h.nil,h.l,h.b⟩;rcases h.i with l|⟨g,off,i,e,m,f,k,b⟩
 ·exact .inl l
 ·exact .inr ⟨g,off,i,e,m,f,k,λj d=>o g _ _ (b j d)⟩
theorem _root_.Go.Proofs.YtkdlocloepbmcaaGreat.Sk.nt{K:Θ}{w w':Γ}{a:Ω}{n c:Nat}{bs:τ}(h:Sk K w a n c bs)(b:Nt w w'):Sk K w' a n c bs:=⟨h.ag.nt b,h.k⟩
theorem ThA.nt{w w':Γ}(j:Nt w w'):∀{t:Pt}{v:Δ},ThA w t v->ThA w' t v:=by
 intro t
 induction t with
 |no=>intro v h;exact h
 |st d=>intro v h;exact h
 |leaf p x=>rintro v⟨a,n,c,a',n',c',f,b,g,e,m⟩;exact⟨a,n,c,a',n',c',f,b.nt j,g.nt j,e,m⟩
 |ext p t l=>rintro v⟨a,n,c,u,f,b,g,e⟩;exact⟨a,n,c,u,f,b.nt j,g,l e⟩
 |br k x l=>rintro v⟨vs,a,n,c,f,b,g,e⟩;exact⟨vs,a,n,c,f,λi o=>l i (b i o),g.nt j,e⟩
theorem ThA.go{w w':Γ}{t:Pt}{v:Δ}(h:ThA w t v)(a:Λ w w'):ThA w' t v:=h.nt (Nt.below a)
theorem ThA.one{w:Γ}{t:Pt}{v:Δ}(h:ThA w t v):v.oneCell'=true:=by
 cases t with
 |no=>rw[show v=ν from h];rfl
 |st d=>rw[h.1];rfl
 |leaf p x=>obtain⟨a,n,c,a',n',c',rfl,_⟩:=h;rfl
 |ext p t=>obtain⟨a,n,c,u,rfl,_⟩:=h;rfl
 |br k x=>obtain⟨vs,a,n,c,rfl,_⟩:=h;rfl
theorem ThA.cells{w:Γ}{t:Pt}{v:Δ}(h:ThA w t v):v.cells=#[v]:=by
 cases t with
 |no=>rw[show v=ν from h];rfl
 |st d=>rw[h.1];rfl
 |leaf p x=>obtain⟨a,n,c,a',n',c',rfl,_⟩:=h;rfl
 |ext p t=>obtain⟨a,n,c,u,rfl,_⟩:=h;rfl
 |br k x=>obtain⟨vs,a,n,c,rfl,_⟩:=h;rfl
theorem ThA.u8{w:Γ}{t:Pt}{v:Δ}(h:ThA w t v)(x:Int):v≠η x:=by
 cases t with
 |no=>rw[show v=ν from h];exact λe=>by cases e
 |st d=>rw[h.1];exact λe=>by cases e
 |leaf p x=>obtain⟨a,n,c,a',n',c',rfl,_⟩:=h;exact λe=>by cases e
 |ext p t=>obtain⟨a,n,c,u,rfl,_⟩:=h;exact λe=>by cases e
 |br k x=>obtain⟨vs,a,n,c,rfl,_⟩:=h;exact λe=>by cases e
def KA(w:Γ)(k:Nat->Pt)(vs:Nat->Δ):Prop:=∀i,i<16->ThA w (k i) (vs i)
theorem Zl{vs:Nat->Δ}{s:Δ}{j:Nat}{v:Δ}(h:(brc vs s)[j]?=some v):(∃i,i<16/\v=vs i)∨v=s:=by
 match j with
 |0|1|2|3|4|5|6|7|8|9|10|11|12|13|14|15=>exact .inl ⟨_,by omega,(BJ h).symm⟩
 |16=>exact .inr (BJ h).symm
 |n+17=>simp[brc]at h
theorem KA.put{w:Γ}{k:Nat->Pt}{vs:Nat->Δ}(h:KA w k vs){i:Nat}{t:Pt}{v:Δ}(a:ThA w t v):KA w (Pt.upd k i t) (updv vs i v):=λj b=>by
 unfold Pt.upd updv;by_cases e:j=i
 ·rw[Ai e,Ai e];exact a
 ·rw[Ae e,Ae e];exact h j b
theorem KA.none(w:Γ):KA w nk (λ_=>ν):=λ_ _=>rfl
theorem KA.nt{w w':Γ}{k:Nat->Pt}{vs:Nat->Δ}(h:KA w k vs)(b:Nt w w'):KA w' k vs:=λi a=>(h i a).nt b
theorem KA.go{w w':Γ}{k:Nat->Pt}{vs:Nat->Δ}(h:KA w k vs)(a:Λ w w'):KA w' k vs:=h.nt (Nt.below a)
def findI(d:τ):List τ->Option Nat
 |[]=>none
 |x::r=>if x=d then some 0 else(findI d r).map (·+1)
def Keys(es:List MapEntry)(ds:List τ):Prop:=es.map (·.key)=ds.map (λd=>γ (B8 d))/\∀x∈ds,x.length=32
theorem Mj(xs:τ)(j:xs.length=32)(a:Bool)(m:Nat)(w:Γ):∀(n k:Nat),k+n=32->
 (forIn (m:=Sem) (List.range' k n) PUnit.unit λi __s=>do
   let __do_lift <-sizeOf 5
   let __do_lift <-part 5 (B8 xs) (i*__do_lift)
   Instr.checkKey a (m+1) 5 __do_lift
   pure (ForInStep.yield PUnit.unit)).run prog w= .ok PUnit.unit w
 |0,k,g=>by simp
 |n+1,k,g=>by
  have c:=Mj xs j a m w n (k+1) (by omega);have d:(prog.info? 5).map (·.size)=some 1:=by kernel_rfl
  cases b:prog.info? 5 with
  |none=>simp[b]at d
  |some y=>
   have f:y.size=1:=(by simpa[b]using d);have e:k<xs.length:=(by omega);have h:(part 5 (B8 xs) (k*1)).run prog w= .ok (η (xs.getD k 0)) w:=by
    simp only[part,AO,isAgg,Bm υ5,A4,AV,BG,Dm,BE,B8_get xs k e]
   have pc:(Instr.checkKey a (m+1) 5 (η (xs.getD k 0))).run prog w= .ok () w:=by
    rw[Instr.checkKey];simp only[AO,Bm υ5,A4,AV]
   rw[List.range'_succ,List.forIn_cons];simp only[AO,sizeOf,typeInfo,run_program,b,f,AV,A4,h,pc];simp only[sizeOf,typeInfo]at c;exact c
theorem E6(xs:τ)(b:xs.length=32)(a:Bool)(w:Γ):(Instr.checkKey a 10000 44 (γ (B8 xs))).run prog w= .ok () w:=by
 rw[show(10000:Nat)=9998+1+1 from rfl,Instr.checkKey];simp only[AO,Bm υ44,A4];rw[Std.Legacy.Range.forIn_eq_forIn_range'];simp only[Std.Legacy.Range.size];rw[show(32-0+1-1)/1=32 from rfl,Mj xs b a 9998 w 32 0 (by omega)];simp
theorem PU:∀(l:τ)(n:Nat),((l.map (Value.int .u8)).zip (l.map (Value.int .u8))).all (λx=>match x with|(x,y)=>Instr.sameBits n x y)=true
 |[],n=>rfl
 |x::r,n=>by
  have a:=PU r n;simp only[Bd,List.zip_cons_cons,List.all_cons,a,Bool.and_true];cases n<;>simp[Instr.sameBits]
theorem U8(xs:τ):Instr.sameBits 10000 (γ (B8 xs)) (γ (B8 xs))=true:=by
 rw[show(10000:Nat)=9999+1 from rfl,Instr.sameBits];simp only[B8,DX,Du];exact PU xs 9999
theorem Xb1(xs:τ)(w:Γ):(Instr.keyThatStays (γ (B8 xs)) (γ (B8 xs))).run prog w= .ok (γ (B8 xs)) w:=by
 unfold Instr.keyThatStays;rw[Ai (U8 xs),AV]
theorem SI(d:τ)(hd:d.length=32)(w:Γ):∀(a:List MapEntry)(ds:List τ)(i:Nat),Keys a ds->
 (Instr.findAsking 44 (γ (B8 d)) a i).run prog w= .ok (match findI d ds with|none=>none|some j=>(a[j]?).map λe=>(i+j,e.val)) w
 |[],[],i,_=>by simp[Instr.findAsking,findI]
 |e::a,[],i,h=>by simp[Keys]at h
 |[],x::L,i,h=>by simp[Keys]at h
 |e::a,x::L,i,h=>by
  obtain⟨c,f⟩:=h;simp only[Bd,List.cons.injEq]at c;have k:=SI d hd w a L (i+1) ⟨c.2,λy l=>f y (Az _ l)⟩;have g:(Op.equalIn Op.maxDepth 44 (γ (B8 d)) (γ (B8 x))).run prog w= .ok (d==x) w:=Xbp d x hd (f x (by simp)) w;rw[Instr.findAsking];simp only[AO,c.1,Op.equal,g,A4];unfold findI;by_cases b:x=d
  ·rw[Ai b,show(d==x)=true from by rw[b];simp];simp
  ·rw[Ae b,show(d==x)=false from by rw[Bo];exact λe=>b e.symm];simp only[BG,Dm];rw[k];cases findI d L with
   |none=>rfl
   |some p=>simp only[B7,Ch];rw[show i+1+p=i+(p+1)from by omega]
theorem JC(d:τ)(hd:d.length=32)(w:Γ)(a:List MapEntry)(ds:List τ)(h:Keys a ds):
 (Instr.findKey 44 (γ (B8 d)) a).run prog w= .ok (match findI d ds with|none=>none|some j=>(a[j]?).map λe=>(j,e.val)) w:=by
 have b:Instr.findNow (.array 32 5) (γ (B8 d)) a 0=none∨a=[]:=by
  cases a with
  |nil=>exact .inr rfl
  |cons e r=>left;rw[Instr.findNow];rfl
 unfold Instr.findKey;simp only[AO,Bm υ44,A4];have c:=SI d hd w a ds 0 h;rcases b with b|rfl
 ·rw[b];simp only;rw[c];cases findI d ds with
  |none=>rfl
  |some p=>simp
 ·have:ds=[]:=by
   cases ds with
   |nil=>rfl
   |cons x r=>simp[Keys]at h
  subst this;rw[Instr.findNow];simp[findI]
theorem EB{w:Γ}{m:Nat}{o a:Obj}(h:w.heap[m]?=some o):(setBlock w m a).heap[m]?=some a:=by
 have b:=lt_of_get h;simp[setBlock,b]
theorem Mk{w:Γ}{m k:Nat}{o:Obj}(h:k≠m):(setBlock w m o).heap[k]?=w.heap[k]?:=by
 simp[setBlock,Ne.symm h]
theorem CY(w:Γ)(m:Nat)(o:Obj):Touch m w (setBlock w m o):=⟨rfl,rfl,rfl,by simp[setBlock],λk _ a=>Mk a⟩
def EntK(w:Γ):List MapEntry->Kn->Prop
 |[],[]=>True
 |e::es,x::r=>e.key=γ (B8 x.1)/\x.1.length=32/\ThA w x.2 e.val/\EntK w es r
 |_,_=>False
theorem EntK.keys{w:Γ}:∀{b:List MapEntry}{kn:Kn},EntK w b kn->Keys b (kn.map (·.1))
 |[],[],_=>⟨rfl,λx f=>by cases f⟩
 |e::b,x::r,h=>by
  obtain⟨d,c⟩:=h.2.2.2.keys
  exact⟨by simp only[Bd,h.1,d],λy a=>by
   rcases Ay.1 a with rfl|a
   ·exact h.2.1
   ·exact c y a⟩
 |[],_::_,h=>h.elim
 |_::_,[],h=>h.elim
theorem EntK.nt{w w':Γ}(b:Nt w w'):∀{a:List MapEntry}{kn:Kn},EntK w a kn->EntK w' a kn
 |[],[],_=>trivial
 |e::a,x::r,h=>⟨h.1,h.2.1,h.2.2.1.nt b,h.2.2.2.nt b⟩
 |[],_::_,h=>h.elim
 |_::_,[],h=>h.elim
theorem EntK.find{w:Γ}{d:τ}:∀{c:List MapEntry}{kn:Kn},EntK w c kn->(match findI d (kn.map (·.1))with
 |none=>findK d kn=none
 |some j=>∃e t,c[j]?=some e/\findK d kn=some t/\ThA w t e.val)
 |[],[],_=>rfl
 |e::c,x::r,h=>by
  simp only[Bd,findI,findK];by_cases b:x.1=d
  ·rw[Ai b,Ai b];exact⟨e,x.2,rfl,rfl,h.2.2.1⟩
  ·rw[Ae b,Ae b];have a:=EntK.find (d:=d) h.2.2.2;cases f:findI d (r.map (·.1))with
   |none=>rw[f]at a;exact a
   |some j=>rw[f]at a;simpa using a
 |[],_::_,h=>h.elim
 |_::_,[],h=>h.elim
theorem EntK.push{w:Γ}{d:τ}{t:Pt}{v:Δ}{b:Nat}(hd:d.length=32)(c:ThA w t v):∀{a:List MapEntry}{kn:Kn},EntK w a kn->EntK w (a++[{key:=γ (B8 d),val:=v,born:=b}]) (kn++[(d,t)])
 |[],[],_=>⟨rfl,hd,c,trivial⟩
 |e::a,x::r,h=>⟨h.1,h.2.1,h.2.2.1,h.2.2.2.push hd c⟩
 |[],_::_,h=>h.elim
 |_::_,[],h=>h.elim
def MKn(w:Γ)(m:Nat)(kn:Kn):Prop:=∃es clock,w.heap[m]?=some (.map es clock)/\EntK w es.toList kn
def Sta(es:List MapEntry)(clock:Nat):Prop:=(∀x∈es,x.born<clock)/\(es.map (·.born)).Nodup
theorem Sta.push{f:List MapEntry}{d:Nat}(h:Sta f d)(k v:Δ):Sta (f++[{key:=k,val:=v,born:=d}]) (d+1):=by
 refine⟨λx c=>?_,?_⟩
 ·rcases AP.1 c with c|c
  ·exact Nat.lt_succ_of_lt (h.1 x c)
  ·rw[Bz.1 c];exact Nat.lt_succ_self _
 ·rw[Bp,List.nodup_append];refine⟨h.2,by simp,λa i b g e=>?_⟩;obtain⟨x,c,rfl⟩:=BC.1 i;have j:b=d:=by simpa using g
  have:=h.1 x c;omega
theorem Sta.same{a c:List MapEntry}{b:Nat}(h:Sta a b)(e:c.map (·.born)=a.map (·.born)):Sta c b:=by
 refine⟨λx g=>?_,by rw[e];exact h.2⟩;have:x.born∈a.map (·.born):=by rw[<-e];exact BC.2 ⟨x,g,rfl⟩
 obtain⟨y,f,d⟩:=BC.1 this;rw[<-d];exact h.1 y f
def MUs(w:Γ)(m:Nat)(us:List τ):Prop:=∃es clock,w.heap[m]?=some (.map es clock)/\Keys es.toList us/\Sta es.toList clock
theorem Hh{w:Γ}{m:Nat}{kn:Kn}(h:MKn w m kn){d:τ}(hd:d.length=32):∃v,(∀(ρ:Φ)(o:Oper)(x y:Operand),o.op= .lookup 82 x y false->ρ x= .map (some m)->ρ y=γ (B8 d)->(execOp ρ o).run prog w= .ok (.value v) w)/\(match findK d kn with
 |none=>v=ν
 |some t=>ThA w t v):=by
 obtain⟨p,s,g,i⟩:=h;have a:=JC d hd w p.toList _ i.keys;have b:=i.find (d:=d);have r:(zeroValue 85).run prog w= .ok ν w:=by
  have k:(prog.info? 85).map (·.zero)=some (some ν):=by kernel_rfl
  cases c:prog.info? 85 with
  |none=>simp[c]at k
  |some y=>
   have f:y.zero=some ν:=(by simpa[c]using k);simp[zeroValue,typeInfo,c,f]
 cases c:findI d (kn.map (·.1))with
 |none=>
  rw[c]at a b;simp only at a b;refine⟨ν,λρ o x y ho hx f=>?_,by rw[b]⟩;unfold execOp;simp[ho,hx,f,Instr.lookup,Bm υ82,CM g,E6 d hd,a,r,Result.andThen]
 |some j=>
  rw[c]at a b;simp only at a b;obtain⟨e,t,n,l,q⟩:=b;rw[n]at a;refine⟨e.val,λρ o x y ho hx f=>?_,by rw[l];exact q⟩;unfold execOp;simp[ho,hx,f,Instr.lookup,Bm υ82,CM g,E6 d hd,a,Result.andThen]
theorem Mv{d:τ}{w:Γ}{f:List MapEntry}{kn:Kn}(h:EntK w f kn)(b:findK d kn=none):findI d (kn.map (·.1))=none:=by
 have:=h.find (d:=d);cases c:findI d (kn.map (·.1))with
 |none=>rfl
 |some j=>rw[c]at this;obtain⟨e,t,_,a,_⟩:=this;rw[b]at a;cases a
theorem O0{w:Γ}{m:Nat}{c:Array MapEntry}{b:Nat}(h:w.heap[m]?=some (.map c b)):∀o,w.heap[m]?=some o->¬HasB o:=λo a=>by rw[h]at a;cases a;exact id
theorem U9{w:Γ}{m:Nat}{kn:Kn}(h:MKn w m kn){d:τ}(hd:d.length=32)(i:findK d kn=none){t:Pt}{v:Δ}(j:ThA w t v):
 ∃w',(∀(ρ:Φ)(o:Oper)(x y z:Operand),o.op= .mapUpdate 82 x y z->ρ x= .map (some m)->ρ y=γ (B8 d)->ρ z=v->(execOp ρ o).run prog w= .ok .skip w')/\MKn w' m (kn++[(d,t)])/\Touch m w w'/\Nt w w':=by
 obtain⟨f,a,b,e⟩:=h;have g:=JC d hd w f.toList _ e.keys;rw[Mv e i]at g;have c:Nt w (setBlock w m (.map (f.push {key:=γ (B8 d),val:=v,born:=a}) (a+1))):=Nt.touch (CY _ _ _) (O0 b);refine⟨setBlock w m (.map (f.push {key:=γ (B8 d),val:=v,born:=a}) (a+1)),λρ o x y z ho hx hy hz=>?_,⟨_,_,EB b,?_⟩,CY _ _ _,c⟩
 ·unfold execOp;simp[ho,hx,hy,hz,Instr.mapUpdate,Bm υ82,CM b,E6 d hd,g,MapKept.run_setObj_map _ b,Result.andThen,setBlock]
 ·rw[Array.toList_push];exact(e.nt c).push hd (j.nt c)
theorem UA{c:List MapEntry}{ds:List τ}(h:Keys c ds){d:τ}(hd:d.length=32){v:Δ}{b:Nat}:Keys (c++[{key:=γ (B8 d),val:=v,born:=b}]) (ds++[d]):=by
 refine⟨by rw[Bp,Bp,h.1];rfl,λx a=>?_⟩;rcases AP.1 a with a|a
 ·exact h.2 x a
 ·rw[Bz.1 a];exact hd
def useP(d:τ)(us:List τ):List τ:=match findI d us with
 |none=>us++[d]
 |some _=>us
theorem Nq{d:τ}:∀{ds:List τ}{j:Nat},findI d ds=some j->ds[j]?=some d
 |x::r,j,h=>by
  unfold findI at h;by_cases hx:x=d
  ·rw[Ai hx]at h;cases h;rw[hx];rfl
  ·rw[Ae hx]at h;cases hq:findI d r with
   |none=>rw[hq]at h;cases h
   |some i=>rw[hq]at h;cases h;simpa using Nq hq
theorem PV{w:Γ}{m:Nat}{us:List τ}(h:MUs w m us){d:τ}(hd:d.length=32):
 ∃w',(∀(ρ:Φ)(o:Oper)(x y z:Operand),o.op= .mapUpdate 84 x y z->ρ x= .map (some m)->ρ y=γ (B8 d)->ρ z=γ #[]->(execOp ρ o).run prog w= .ok .skip w')/\MUs w' m (useP d us)/\Touch m w w'/\Nt w w':=by
 obtain⟨a,i,b,g,l⟩:=h;have f:=JC d hd w a.toList _ g;unfold useP;cases k:findI d us with
 |none=>
  rw[k]at f;refine⟨setBlock w m (.map (a.push {key:=γ (B8 d),val:=γ #[],born:=i}) (i+1)),λρ o x y z ho hx hy hz=>?_,⟨_,_,EB b,?_,by rw[Array.toList_push];exact l.push _ _⟩,CY _ _ _,Nt.touch (CY _ _ _) (O0 b)⟩
  ·unfold execOp;simp[ho,hx,hy,hz,Instr.mapUpdate,Bm υ84,CM b,E6 d hd,f,MapKept.run_setObj_map _ b,Result.andThen,setBlock]
  ·rw[Array.toList_push];exact UA g hd
 |some j=>
  have p:=Nq k;have C:=(Ar.1 p).1;have B:a.toList.length=us.length:=by have:=Ao List.length g.1;simpa using this
  have c:j<a.toList.length:=by omega
  rw[k]at f;simp only at f;rw[Ad c]at f;have n:a.toList[j].key=γ (B8 d):=by
   have q:(a.toList.map (·.key))[j]?=(us.map λd=>γ (B8 d))[j]?:=(by rw[g.1]);rw[AZ,AZ,p,Ad c]at q;simpa using q
  have t:a[j]?=some a.toList[j]:=by simp[Bw (show j<a.size by simpa using c)]
  have r:(a.modify j λe=>{e with key:=γ (B8 d),val:=γ #[]}).toList.map (·.born)=a.toList.map (·.born):=by
   rw[Array.toList_modify,Go.ChangeMaps.modify_eq_set _ _ _ a.toList[j] (Ad c),ES];have A:j<(a.toList.map (·.born)).length:=(by simpa using c);have v:(a.toList.map (·.born))[j]'A=a.toList[j].born:=List.getElem_map _;show(a.toList.map (·.born)).set j a.toList[j].born=_;rw[<-v];exact List.set_getElem_self _
  have s:=Xb1 d w;refine⟨setBlock w m (.map (a.modify j λe=>{e with key:=γ (B8 d),val:=γ #[]}) i),λρ o x y z ho hx hy hz=>?_,⟨_,_,EB b,⟨?_,g.2⟩,l.same r⟩,CY _ _ _,Nt.touch (CY _ _ _) (O0 b)⟩
  ·have u:((a[j]?).map (·.key)).getD (γ (B8 d))=γ (B8 d):=(by rw[t];exact n);unfold execOp;simp only[ho,hx,hy,hz,Instr.mapUpdate,AO,Bm υ84,A4,CM b,E6 d hd,f,B7,u,s,MapKept.run_setObj_map _ b];rfl
  ·rw[Array.toList_modify,Go.ChangeMaps.modify_eq_set _ _ _ a.toList[j] (Ad c),ES,<-g.1];rw[show(γ (B8 d))=(a.toList.map (·.key))[j]'(by simpa using c)from by rw[List.getElem_map,n]];exact List.set_getElem_self _
structure PAt(w:Γ)(g gK gU:Nat)(t:Pt)(kn:Kn)(us:List τ):Prop where
 row:∃v,Rw g w #[v, .map (some gK), .map (some gU)] 87/\ThA w t v
 km:MKn w gK kn
 um:MUs w gU us
 ne:gK≠gU
 wg:Wg t 0
 ok:KnOk kn
section
variable {w w' : World} {g gK gU : Nat} {t : Pt} {kn : Kn} {us us' : List (List Int)}
theorem MKn.keep{m:Nat}(h:MKn w m kn)(f:Nt w w')(c:w'.heap[m]?=w.heap[m]?):MKn w' m kn:=by
 obtain⟨d,a,b,e⟩:=h;exact⟨d,a,c.trans b,e.nt f⟩
theorem MUs.keep{m:Nat}(h:MUs w m us)(c:w'.heap[m]?=w.heap[m]?):MUs w' m us:=by
 obtain⟨d,a,b,e⟩:=h;exact⟨d,a,c.trans b,e⟩
theorem MKn.lt{m:Nat}(h:MKn w m kn):m<w.heap.size:=by obtain⟨c,b,a,_⟩:=h;exact lt_of_get a
theorem MUs.lt{m:Nat}(h:MUs w m us):m<w.heap.size:=by obtain⟨c,b,a,_⟩:=h;exact lt_of_get a
theorem PAt.lt(h:PAt w g gK gU t kn us):g<w.heap.size:=by obtain⟨v,a,_⟩:=h.row;exact lt_of_get a
theorem PAt.neK(h:PAt w g gK gU t kn us):g≠gK:=λe=>by
 obtain⟨v,b,_⟩:=h.row;obtain⟨d,c,a,_⟩:=h.km;rw[<-e,show w.heap[g]?=_ from b]at a;cases a
theorem PAt.neU(h:PAt w g gK gU t kn us):g≠gU:=λe=>by
 obtain⟨v,b,_⟩:=h.row;obtain⟨d,c,a,_⟩:=h.um;rw[<-e,show w.heap[g]?=_ from b]at a;cases a
theorem PAt.keep(h:PAt w g gK gU t kn us)(a:Nt w w')(c:w'.heap[g]?=w.heap[g]?)(e:w'.heap[gK]?=w.heap[gK]?)(d:MUs w' gU us'):PAt w' g gK gU t kn us':=by
 obtain⟨v,f,b⟩:=h.row;exact⟨⟨v,c.trans f,b.nt a⟩,h.km.keep a e,d,h.ne,h.wg,h.ok⟩
theorem PAt.go(h:PAt w g gK gU t kn us)(a:Λ w w'):PAt w' g gK gU t kn us:=
 h.keep (Nt.below a) (a.block _ h.lt) (a.block _ h.km.lt) (h.um.keep (a.block _ h.um.lt))
theorem PAt.used(h:PAt w g gK gU t kn us)(a:Touch gU w w')(c:Nt w w')(b:MUs w' gU us'):PAt w' g gK gU t kn us':=
 h.keep c (a.block _ h.lt h.neU) (a.block _ h.km.lt h.ne) b
end
end
end Pa
end Go.Proofs.YtkdlocloepbmcaaGreat
