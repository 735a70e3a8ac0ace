/- Any thing's name; the root. -/
import Derived.Test.YtkdlocloepbmcaaGreatG23
set_option linter.unusedVariables false
set_option linter.unusedSimpArgs false
set_option maxRecDepth 100000
set_option maxHeartbeats 1000000
open Go.Proofs.Tryz Go.RowKit
namespace Go.Proofs.YtkdlocloepbmcaaGreat
namespace Pa
section
open Di (dref)
open Pt
theorem SR(p x:τ):NdS (leaf p x):=λh=>by
 obtain⟨a,n,c,b,m,d,rfl,e,g,f,i⟩:=h;exact XA e g f i
theorem O5{t:Pt}(h:NdS t):EnS t:=λa=>XaX a h
theorem Xbb(t:Pt):RfS t/\(t.isNd=true->NdS t):=by
 induction t with
 |no=>exact⟨λh=>by obtain rfl:=h;exact XaY,λh=>by cases h⟩
 |st d=>exact⟨λh=>by obtain⟨rfl,hd,m⟩:=h;exact XaZ hd m,λh=>by cases h⟩
 |leaf p x=>exact⟨λh=>Rt h rfl (O5 (SR p x)),λ_=>SR p x⟩
 |ext p t e=>
  have b:NdS (ext p t):=λh=>by
   obtain⟨a,n,c,u,rfl,g,f,l⟩:=h;exact ZD g f l e.1
  exact⟨λh=>Rt h rfl (O5 b),λ_=>b⟩
 |br k x e=>
  have b:NdS (br k x):=λh=>by
   obtain⟨vs,a,n,c,rfl,j,o,f⟩:=h;exact Xba j o f (λi _=>(e i).1)
  exact⟨λh=>Rt h rfl (O5 b),λ_=>b⟩
theorem Xb9{t:Pt}(h:t.isNd=true):EnS t:=O5 ((Xbb t).2 h)
theorem ZE{w:Γ}:Calls prog 109 #[ξ 0] w λe w'=>∃v',e=ω v'/\RVl w (ι 0) v' w':=by
 have a:Bl w w:=Bl.refl w;refine Ck func109 25<|Hr 47 (ι 0) ?_;exact⟨_,rfl,rfl,a⟩
theorem Xbc{w:Γ}:Calls prog 75 #[ξ 0] w λe w'=>∃v',e=ω v'/\RVl w (ι 0) v' w':=by
 have a:Bl w w:=Bl.refl w;refine Ck func75 8<|Hc 12 (R:=RVl w (ι 0)) (ZE) ?_;rintro _ w1⟨rfl,b⟩;refine Hr 4 (ι 0) ?_;replace a:=a.go b;exact⟨_,rfl,rfl,a⟩
theorem XbA{w:Γ}:Calls prog 100 #[ε,ι 0,ι 0, .func (.func 45) #[] #[]] w λe w'=>∃v',e=ω v'/\RVl w (θ #[]) v' w':=by
 have a:Bl w w:=Bl.refl w;refine Ck func100 53<|Ho (X:=Unit) 8 (λ_=>[(8,ι 1),(11,ι 1),(10,ι 0),(0,ε),(1,ι 0),(2,ι 0),(3, .func (.func 45) #[] #[])]) (λ_ v=>Bl w v) (λ_=>0) () a ?_;clear a;rintro _ v a c b;refine Hr 13 (θ #[]) ?_;exact⟨_,rfl,rfl,a⟩
theorem XbB{w:Γ}:Calls prog 74 #[ε,ι 0,ι 0,ι 0, .func (.func 45) #[] #[]] w λe w'=>∃v',e=ω v'/\RVl w (θ #[]) v' w':=by
 have a:Bl w w:=Bl.refl w;refine Ck func74 148<|Ho (X:=Unit) 11 (λ_=>[(11,β true),(10,β true),(0,ε),(1,ι 0),(2,ι 0),(3,ι 0),(4, .func (.func 45) #[] #[])]) (λ_ v=>Bl w v) (λ_=>0) () a ?_;clear a;rintro _ v a d c;refine Hc 23 (R:=RVl v (θ #[])) (XbA) ?_;rintro _ w1⟨rfl,b⟩;refine Hr 7 (θ #[]) ?_;replace a:=a.go b;exact⟨_,rfl,rfl,a⟩
theorem Xbd{w:Γ}:Calls prog 44 #[ε, .func (.func 45) #[] #[]] w λe w'=>∃v',e=ω v'/\RVl w (θ #[]) v' w':=by
 have a:Bl w w:=Bl.refl w;refine Ck func44 14<|Hc 12 (R:=RVl w (ι 0)) (Xbc) ?_;rintro _ w1⟨rfl,b⟩;refine Hc 1 (R:=RVl w1 (θ #[])) (XbB) ?_;rintro _ d⟨rfl,c⟩;refine Hr 1 (θ #[]) ?_;replace a:=(a.go b).go c;exact⟨_,rfl,rfl,a⟩
structure Td where
 v:τ
 b:Bool
 e:Int
 d:τ
def callP(kn:Kn)(t:Pt)(k:Int)(key y:τ):Pt×Td:=if k=0 then(t,⟨(getP kn t key).1,decide (0<(getP kn t key).1.length),(getP kn t key).2,z32⟩)else if k=1 then((putQ kn t key y).1,⟨[],false,(putQ kn t key y).2,z32⟩)else if k=2 then((delQ kn t key).1,⟨[],(delQ kn t key).2.1,(delQ kn t key).2.2,z32⟩)else(t,⟨[],false,0,rtP t⟩)
def callU(kn:Kn)(t:Pt)(k:Int)(key y:τ)(us:List τ):List τ:=if k=0 then getU kn t key us else if k=1 then putU kn t key y us else if k=2 then delU kn t key us else us
end
section
open Go.RowKit Go.Proofs
open Go.Sort (Holds putRow putCells)
open Ni (lessP FK)
theorem less_irr:∀a:τ,lessP a a=false
 |[]=>rfl
 |x::r=>by simp[lessP,less_irr r]
theorem less_trans:∀a b c:τ,lessP a b=true->lessP b c=true->lessP a c=true
 |[],[],_,h,_=>by simp[lessP]at h
 |[],_::_,[],_,h=>by simp[lessP]at h
 |[],_::_,_::_,_,_=>rfl
 |_::_,[],_,h,_=>by simp[lessP]at h
 |_::_,_::_,[],_,h=>by simp[lessP]at h
 |x::a,y::b,z::c,h,k=>by
  simp only[lessP]at h k⊢;by_cases e:x=y
  ·subst e;rw[Ai rfl]at h;by_cases d:x=z
   ·subst d;rw[Ai rfl]at k⊢;exact less_trans a b c h k
   ·rw[Ae d]at k⊢;exact k
  ·rw[Ae e]at h;by_cases d:y=z
   ·subst d;rw[Ae e];exact h
   ·rw[Ae d]at k;have g:=B6 h;have f:=B6 k;rw[Ae (by omega)];exact AF (by omega)
theorem less_tot(a b:τ)(h:a≠b)(k:lessP a b=false):lessP b a=true:=by
 have:=FK a b;simpa[h,k]using this
def cmpP(a b:τ):Int:=if a=b then 0 else if lessP a b then-1 else 1
theorem cmp_lt(a b:τ):decide (cmpP a b<0)=lessP a b:=by
 unfold cmpP;by_cases h:a=b
 ·subst h;simp[less_irr]
 ·rw[Ae h];cases lessP a b<;>simp
theorem loadBytes_run{P:Program}{w:Γ}{gb:Nat}:∀(bs:τ)(off:Nat)(a:ByteArray),(∀j,j<bs.length->w.cell? ⟨gb,off+j,none⟩=some (η (bs.getD j 0)))->(Extern.Bytes.loadBytes ⟨gb,off,none⟩ bs.length a).run P w= .ok ⟨a.data++(Lib.bytesOf bs).toArray⟩ w
 |[],off,a,h=>by
  obtain⟨d⟩:=a;simp[Extern.Bytes.loadBytes,Lib.bytesOf]
 |x::r,off,a,h=>by
  have b:=h 0 (by simp);rw[Cz]at b;have e:(Extern.Bytes.loadBytes ⟨gb,off,none⟩ (x::r).length a).run P w=(Extern.Bytes.loadBytes ⟨gb,off+1,none⟩ r.length (a.push x.toNat.toUInt8)).run P w:=by
   rw[AE,Extern.Bytes.loadBytes,AO,run_load,b];simp only[List.getD_cons_zero,Result.andThen];rfl
  rw[e,loadBytes_run r (off+1) (a.push x.toNat.toUInt8) (λj c=>by
   have:=h (j+1) (by simp;omega);rw[show off+1+j=off+(j+1)from by omega,this];simp)]
  obtain⟨d⟩:=a;simp[Lib.bytesOf,ByteArray.push,Nat.toUInt8]
theorem bytesOf_run{P:Program}{K:Θ}{w:Γ}{a:Ω}{n c:Nat}{p:τ}(h:Sk K w a n c p):(Extern.Bytes.bytesOf (σ a n c)).run P w= .ok ⟨(Lib.bytesOf p).toArray⟩ w:=by
 have e:=h.len;rcases h.ag.i with⟨b,d⟩|⟨gb,off,b,d,l,g,k,f⟩
 ·subst b;subst d;cases a with
  |none=>rfl
  |some ad=>rfl
 ·subst b;have:=loadBytes_run (P:=P) p off ByteArray.empty (λj i=>f j (by omega));rw[e]at this;show(Extern.Bytes.loadBytes ⟨gb,off,none⟩ n ByteArray.empty).run P w=_;rw[this];show Result.ok (⟨(#[]:Array UInt8)++(Lib.bytesOf p).toArray⟩:ByteArray) w=_;rw[EJ]
theorem u8_lt{x y:Int}(b:0<=x/\x<256)(a:0<=y/\y<256):(UInt8.ofNat x.toNat<UInt8.ofNat y.toNat)↔x<y:=by
 rw[UInt8.lt_iff_toNat_lt,D8,D8];omega
theorem cmpB_eq:∀p q:τ,(∀x∈p,0<=x/\x<256)->(∀x∈q,0<=x/\x<256)->Lib.compareBytes (Lib.bytesOf p) (Lib.bytesOf q)=cmpP p q
 |[],[],_,_=>rfl
 |[],y::q,_,_=>by simp[Lib.bytesOf,Lib.compareBytes,cmpP,lessP]
 |x::p,[],_,_=>by simp[Lib.bytesOf,Lib.compareBytes,cmpP,lessP]
 |x::p,y::q,d,f=>by
  have i:=d x (by simp);have g:=f y (by simp);have j:=cmpB_eq p q (λz c=>d z (Az _ c)) (λz c=>f z (Az _ c));have e:Lib.compareBytes (Lib.bytesOf (x::p)) (Lib.bytesOf (y::q))=if UInt8.ofNat x.toNat<UInt8.ofNat y.toNat then-1 else if UInt8.ofNat y.toNat<UInt8.ofNat x.toNat then 1 else Lib.compareBytes (Lib.bytesOf p) (Lib.bytesOf q):=rfl
  rw[e,j];simp only[u8_lt i g,u8_lt g i];by_cases h:x=y
  ·subst h;have b:cmpP (x::p) (x::q)=cmpP p q:=by
    unfold cmpP;simp[lessP]
   rw[b];simp
  ·have b:cmpP (x::p) (y::q)=if x<y then-1 else 1:=by
    unfold cmpP;simp[lessP,h]
   rw[b];by_cases a:x<y
   ·simp[a]
   ·rw[Ae a,Ae a,Ai (by omega)]
theorem cmp_run{P:Program}{K K':Θ}{w:Γ}{a a':Ω}{n c n' c':Nat}{p q:τ}(b:Sk K w a n c p)(d:Sk K' w a' n' c' q):(Extern.BytealgCompare.compare #[σ a n c,σ a' n' c']).run P w= .ok (ι (cmpP p q)) w:=by
 change Sem.run P (do pure (goInt (Extern.BytealgCompare.cmp (<-Extern.Bytes.bytesOf (σ a n c)) (<-Extern.Bytes.bytesOf (σ a' n' c'))))) w=_;simp only[AO,bytesOf_run b,bytesOf_run d,AV,Result.andThen];rw[Lib.cmp_eq];show Result.ok (goInt (Lib.compareBytes (Lib.bytesOf p) (Lib.bytesOf q))) w=_;rw[cmpB_eq p q b.ag.b d.ag.b];rfl
theorem ol_cmp{w:Γ}{ρ:Φ}{o:Oper}{u v r:Δ}(x y:Operand)(a:Array TypeId)(c:o.op= .call {callee:= .value (.func 76),args:=#[x,y],argTypes:=a})(b:ρ (.func 76)= .func (.func 76) #[] #[])(f:ρ x=u)(d:ρ y=v)(g:(Extern.BytealgCompare.compare #[u,v]).run prog w= .ok r w):(execOp ρ o).run prog w= .ok (.value r) w:=by
 unfold execOp;simp only[c,resolve,b,Deferred.ofValue,AO,AV,A4,BT,Bd,BY,f,d,invoke,List.append_toArray,AH,A7];rw[run_callFunc_extern func76 (by kernel_rfl) (by kernel_rfl) (by kernel_rfl) (e:=Extern.BytealgCompare.compare) (by kernel_rfl),g];rfl
theorem bcmp_any{K K':Θ}{w:Γ}{a a':Ω}{n c n' c':Nat}{p q:τ}(b:Sk K w a n c p)(d:Sk K' w a' n' c' q):
 Calls prog 45 #[σ a n c,σ a' n' c'] w λe w'=>e=ω (ι (cmpP p q))/\w'=w:=by
 refine Ck func45 8<|Hx 9 (og f45 1 2) (ι (cmpP p q)) (λ_=>ol_cmp _ _ _ rfl rfl (by kernel_rfl) (by kernel_rfl) (cmp_run b d)) ?_;exact Hr 4 (ι (cmpP p q)) ⟨rfl,rfl⟩
def Gd(K:Θ)(w:Γ)(p:Δ×τ):Prop:=∃a n c,p.1=σ a n c/\Sk K w a n c p.2
theorem Gd.tou{K:Θ}{w w':Γ}{g:Nat}{p:Δ×τ}(h:Gd K w p)(t:Touch g w w')(d:¬K g):Gd K w' p:=by
 obtain⟨a,n,c,b,e⟩:=h;exact⟨a,n,c,b,e.tou t d⟩
abbrev Gp(K:Θ)(w:Γ):Type:={p:Δ×τ//Gd K w p}
def encQ{K:Θ}{w:Γ}(x:Gp K w):Δ:=x.1.1
def ordQ{K:Θ}{w:Γ}(x y:Gp K w):Int:=cmpP x.1.2 y.1.2
theorem ordP_lt{K:Θ}{w:Γ}(x y:Gp K w):Go.Proofs.ltOf ordQ x y=lessP x.1.2 y.1.2:=cmp_lt _ _
theorem swoP(K:Θ)(w:Γ):Sort.SWO (Go.Proofs.ltOf (ordQ (K:=K) (w:=w))):=⟨λx=>by rw[ordP_lt];exact less_irr _,λx y z c a=>by rw[ordP_lt]at*;exact less_trans _ _ _ c a,λx y z c a=>by
 rw[ordP_lt]at*;cases b:lessP x.1.2 z.1.2 with
 |false=>rfl
 |true=>
  by_cases e:x.1.2=y.1.2
  ·rw[e]at b;rw[b]at a;cases a
  ·have f:=less_tot x.1.2 y.1.2 e c;have d:=less_trans _ _ _ f b;rw[d]at a;cases a⟩
theorem mapBlock_other(w:Γ)(b k:Nat)(f:Ξ->Ξ)(h:k≠b):(Sort.mapBlock w b f).heap[k]?=w.heap[k]?:=by
 unfold Sort.mapBlock;simp[Ep,Ne.symm h]
theorem sortW_touch{α:Type}[Inhabited α](enc:α->Δ)(w:Γ)(gb a:Nat)(d:Array α)(b:Array Obj):Touch gb w (sortWorld enc w gb 0 a d b):=by
 refine⟨rfl,rfl,rfl,?_,λk f e=>?_⟩
 ·simp[sortWorld,putRow,Sort.mapBlock,Sort.grow,Sort.ahead]
 ·show((putRow enc (Sort.ahead w a) gb 0 d).heap++b)[k]?=w.heap[k]?;have c:(putRow enc (Sort.ahead w a) gb 0 d).heap.size=w.heap.size:=by simp[putRow,Sort.mapBlock,Sort.ahead]
  rw[CA (by rw[c];exact f)];exact mapBlock_other (Sort.ahead w a) gb k _ e
theorem sortW_row{α:Type}[Inhabited α](enc:α->Δ)(w:Γ)(gb a:Nat)(d:Array α)(b:Array Obj){cur:Ξ}{T:TypeId}(h:Rw gb w cur T):Rw gb (sortWorld enc w gb 0 a d b) (putCells enc 0 d cur) T:=by
 show((putRow enc (Sort.ahead w a) gb 0 d).heap++b)[gb]?=_;have c:(putRow enc (Sort.ahead w a) gb 0 d).heap.size=w.heap.size:=by simp[putRow,Sort.mapBlock,Sort.ahead]
 rw[CA (by rw[c];exact lt_of_get h)];unfold Rw at h;have e:(Sort.ahead w a).heap[gb]?=some (.cells cur T (0,0)):=h;simp only[putRow,Sort.mapBlock,Ep,e,B7,↓reduceIte];rfl
theorem sort_bytes {K : Nat → Prop} {w : World} {gb n cap : Nat} {ps : List (Value × List Int)} {cur : Array Value} (hr : Rw gb w cur 32) (hcur : cur.toList.take n = ps.map Prod.fst) (hsz : cur.size = cap) (hn : ps.length = n) (hle : n ≤ cap) (hg : ∀ p ∈ ps, Gd K w p) (hK : ¬ K gb) (h0 : 0 < n) (hb : n ≤ 8800000000002) :
    Calls Tryz.prog 44 #[.slice (some ⟨gb, 0, none⟩) n cap, .func (.func 45) #[] #[]] w fun e w' => ∃ u, e = .returned u ∧ (fun u w' => u = .tuple #[] ∧ (∃ (ps' : List (Value × List Int)) (cur' : Array Value), ps'.Perm ps ∧ ps'.Pairwise (fun p q => lessP q.2 p.2 = false) ∧ Rw gb w' cur' 32 ∧ cur'.toList.take n = ps'.map Prod.fst ∧ cur'.size = cap) ∧ Touch gb w w') u w' := by
  obtain ⟨xs, hxs⟩ : ∃ xs : List (Gp K w), xs.map Subtype.val = ps := ⟨ps.pmap Subtype.mk hg, by simp [List.map_pmap]⟩
  have hxl : xs.length = n := by rw [← hn, ← hxs, List.length_map]
  have x0 : Gp K w := xs[0]'(by omega)
  haveI : Inhabited (Gp K w) := ⟨x0⟩
  have hsx : xs.toArray.size = n := by simp [hxl]
  have hcell : ∀ j (hj : j < n), cur[j]? = some (encQ (xs[j]'(by omega))) := by
    intro j hj
    have := congrArg (fun l => l[j]?) hcur
    rw [← hxs] at this
    simp only [List.getElem?_take_of_lt hj, List.map_map, List.getElem?_map, Array.getElem?_toList, List.getElem?_eq_getElem (show j < xs.length by omega), Option.map_some] at this
    exact this
  have hH : Holds encQ w gb 0 xs.toArray := by
    intro j hj
    rw [hsx] at hj
    refine ⟨?_, frozen_of_row _ _ _ _ _ hr⟩
    rw [cell_of_row _ _ _ _ _ _ hr, Nat.zero_add, hcell j hj]
    have : xs.toArray[j]! = xs[j]'(by omega) := by simp [hxl, hj]
    rw [this]
  have hcon := Go.Proofs.Any.slices_SortFunc ZZ (encQ (K := K) (w := w)) (fun x => by
      obtain ⟨⟨v, b⟩, a, m, c, e, hs⟩ := x
      show v.oneCell' = true
      rw [show v = .slice a m c from e]; rfl) ordQ (swoP K w) 45 #[] gb 0 cap xs.toArray w (fun args w => by kernel_rfl)
    (fun mm os dk _ x y => by
      obtain ⟨⟨v, b⟩, a, m, c, e, hs⟩ := x
      obtain ⟨⟨v2, b2⟩, a2, m2, c2, e2, hs2⟩ := y
      have ht := sortW_touch (encQ (K := K) (w := w)) w gb mm dk os
      have h1 := bcmp_any (hs.tou ht hK) (hs2.tou ht hK)
      have e : v = .slice a m c := e
      have e2 : v2 = .slice a2 m2 c2 := e2
      subst e e2
      refine (show Calls Tryz.prog 45 (#[.slice a m c, .slice a2 m2 c2] ++ #[]) _ _ from h1).mono ?_
      rintro e w' ⟨rfl, rfl⟩
      exact ⟨rfl, 0, #[], by simp [Sort.grow, World.drewN]⟩) hH (lt_of_get hr) (by rw [hsx]; omega)
  rw [hsx] at hcon
  refine (show Calls Tryz.prog 44 #[.slice (some ⟨gb, 0, none⟩) n cap, .func (.func 45) #[] #[]] w _ from hcon).mono ?_
  rintro e w' ⟨rfl, d', nn, os, hp, hs, rfl⟩
  have hps : d'.size = n := by rw [hp.1, hsx]
  refine ⟨_, rfl, rfl, ⟨d'.toList.map Subtype.val, putCells encQ 0 d' cur, ?_, ?_, sortW_row _ _ _ _ _ _ hr, ?_, ?_⟩, sortW_touch _ _ _ _ _ _⟩
  · have := hp.2.2
    rw [show d'.extract 0 n = d' from by rw [← hps]; simp, show xs.toArray.extract 0 n = xs.toArray from by rw [← hsx]; simp] at this
    rw [← hxs]
    exact this.map _
  · rw [List.pairwise_map, List.pairwise_iff_getElem]
    intro i j hi hj hij
    simp at hi hj
    have h1 := hs i j (Nat.zero_le _) hij (by omega)
    rw [ordP_lt] at h1
    simp only [hi, hj, getElem!_pos] at h1
    simpa using h1
  · apply List.ext_getElem?
    intro j
    by_cases hj : j < n
    · rw [List.getElem?_take_of_lt hj, Array.getElem?_toList]
      have hc : j < cur.size := by omega
      simp only [putCells, Array.getElem?_mapIdx, Array.getElem?_eq_getElem hc, Option.map_some, List.map_map, List.getElem?_map, Array.getElem?_toList]
      rw [if_pos ⟨Nat.zero_le _, by omega⟩, Nat.sub_zero, getElem!_pos d' j (by omega), Array.getElem?_eq_getElem (show j < d'.size by omega)]
      rfl
    · rw [List.getElem?_eq_none (by simp; omega), List.getElem?_eq_none (by simp; omega)]
  · simp [putCells, hsz]
def isS(u:Δ):Prop:=∃a n c,u=σ a n c
def SlB(w:Γ)(v:Δ):Prop:=∀k cur T fr,v.ownBlock=some k->w.heap[k]?=some (.cells cur T fr)->∀u∈cur.toList,isS u
theorem XB(n:Nat):∀u∈(Builtin.zeroCells #[ε] n).toList,isS u:=by
 intro u a;unfold Builtin.zeroCells at a;simp only[Array.toList_map,BC]at a;obtain⟨i,_,rfl⟩:=a;have e:i%1=0:=Nat.mod_one _;exact⟨none,0,0,by simp[e]⟩
theorem SlB.nil(w:Γ):SlB w (ε):=λk cur T b a=>by simp[Value.ownBlock]at a
theorem Xbe{P:Program}{w:World}{base:Nat}{t ty e:TypeId}{i:TypeInfo}(B:P.underlying t=some (.slice e))(C:P.info? e=some i)(J:i.zero=some (.slice none 0 0))(f:i.size=1)(G:i.bytes=24)
 {v:Value} {n:Nat} {xs:List Value} (s:w.ownsRow base e 1 v n xs) (K:SlB w v) {a:Addr} {m c:Nat} {news:List Value} (y:news.length=m*1) (z:∀j u,news[j]?=some u->w.cell? (a.add j)=some u) (A:∀u∈news,isS u) (Y:0<m)
 (R:n+m<=maxLen) (L:(n+m)*24<=140737488355328) {v':Value} {w':World} (d:(Builtin.append_ #[t,t] ty #[v, .slice (some a) m c]).run P w= .ok v' w'):SlB w' v':=by
 have V:∀u∈news,u.oneCell'=true:=λu b=>by obtain⟨_,_,_,rfl⟩:=A u b;rfl
 have Z:n+m<=9223372036854775807:=by simp only[maxLen]at R;omega
 have Q:∀{g cap:Nat},v= .slice (some ⟨g,0,none⟩) n cap->∀u∈xs,isS u:=by
  intro g cap ev u b;rcases s.2 with⟨rfl,rfl⟩|⟨g',aa,cur,rfl,S,h,U,O,x,E⟩
  ·cases ev
  ·exact K g' cur e (0,0) rfl h u (by rw[<-E]at b;exact Bb b)
 have F:∀{ys:List Value}{q:Nat},(∀u∈ys,isS u)->∀u∈(ys.toArray++news.toArray++Builtin.zeroCells #[.slice none 0 0] q).toList,isS u:=by
  intro ys q X u b;simp only[Array.toList_append,AP]at b;rcases b with(b|b)|b
  ·exact X u b
  ·exact A u b
  ·exact XB _ u b
 have I:∀{cs:Array Value}{q r:Nat},(∀u∈cs.toList,isS u)->SlB (w.drew.alloc (.cells cs e)) (.slice (some ⟨w.heap.size,0,none⟩) q r):=by
  intro cs q r x k cur T W l p;simp only[Value.ownBlock,Cd]at l;subst l;rw[show w.heap.size=w.drew.heap.size from rfl,Ak w.drew]at p;cases p;exact x
 rcases id s.2 with⟨rfl,rfl⟩|⟨g,cap,cur,rfl,S,h,U,O,x,E⟩
 ·have o:=EU (P:=P) w t ty e i _ B C J a m c news (by rw[f];exact y) z Y (by omega) (by rw[G];omega);rw[o]at d;cases d;refine I ?_;have:=F (ys:=[]) (q:=grownCap w m 0 e-m) (λu b=>by cases b);rw[show([]:List Value).toArray=#[]from rfl,EJ]at this;exact this
 ·by_cases D:n+m<=cap
  ·have N:n*i.size+news.length<=cur.size:=(by rw[y,x,f,<-Nat.add_mul];exact E0 _ D);have o:=EE (P:=P) w t ty e i B C g n cap cur h a m c news (by rw[f];exact y) z V D N;rw[o]at d;cases d;intro k ab T W l p;simp only[Value.ownBlock,Cd]at l;subst l;rw[AC w g cur _ e _ h]at p;cases p;intro u b;have H:=K g cur e (0,0) rfl h;simp only[AP]at b;rcases b with(b|b)|b
   ·exact H u (Bb b)
   ·exact A u b
   ·exact H u (BA b)
  ·have M:∀j u,xs[j]?=some u->w.cell? ((⟨g,0,none⟩:Addr).add j)=some u:=s.cells (g:=g) rfl;have o:=EF (P:=P) w t ty e i _ B C J ⟨g,0,none⟩ n cap xs (by rw[f];exact s.1) M a m c news (by rw[f];exact y) z (by omega) (by omega) (by rw[G];exact growslice_fits (by omega) L);rw[o]at d;cases d;exact I (F (Q rfl))
end
section
open Di (dref)
open Pt
open Ni (lessP)
def KLe(k1 k2:Kn):Prop:=∀d t,findK d k1=some t->findK d k2=some t
section
variable {kn : Kn} {Pp : List (List Int) → Prop}
end
section
variable {k1 k2 : Kn} {U : List (List Int)}
end
end
section
open Di (dref)
open Pt
open Ni (lessP)
section
variable {k1 k2 : Kn} {U : List (List Int)}
end
def usB(kn:Kn)(d:τ):τ:=match findK d kn with
 |some t=>encN (ndT t)
 |none=>[]
end
section
open Go.ChangeMaps (setBlock)
open Di (dref)
open Pt
open Ni (lessP)
theorem Xbf:∃i,prog.info? 32=some i/\i.zero=some (ε)/\i.size=1/\i.bytes=24:=by
 have a:(prog.info? 32).map (λi=>(i.zero,i.size,i.bytes))=some (some (ε),1,24):=by kernel_rfl
 cases b:prog.info? 32 with
 |none=>simp[b]at a
 |some i=>
  rw[b]at a;simp only[B7,Cd,C5]at a;exact⟨i,rfl,a.1,a.2.1,a.2.2⟩
theorem ZF{w w':Γ}{v u r:Δ}{ρ:Φ}{o:Oper}(d:∀ty,(Builtin.append_ #[30,30] ty #[v,u]).run prog w= .ok r w')(x y:Operand)(c:o.op= .call {callee:= .builtin .append,args:=#[x,y],argTypes:=#[30,30]})(b:ρ x=v)(a:ρ y=u):(execOp ρ o).run prog w= .ok (.value r) w':=by
 unfold execOp;simp only[c,resolve,invoke,builtin,AO,AV,A4,BT,Bd,BY,b,a,d]
theorem XC{w:Γ}{m:Nat}{kn:Kn}(h:MKn w m kn){d:τ}(hd:d.length=32){t:Pt}(f:findK d kn=some t):∃x,(∀v:Γ,v.heap[m]?=w.heap[m]?->∀(ρ:Φ)(o:Oper)(x1 k:Operand),o.op= .lookup 82 x1 k false->ρ x1= .map (some m)->ρ k=γ (B8 d)->(execOp ρ o).run prog v= .ok (.value x) v)/\ThA w t x:=by
 obtain⟨q,s,l,g⟩:=h;have a:=g.find (d:=d);cases c:findI d (kn.map (·.1))with
 |none=>
  rw[c]at a;simp only at a;rw[f]at a;cases a
 |some j=>
  rw[c]at a;simp only at a;obtain⟨e,t',p,i,r⟩:=a;rw[f]at i;cases i;refine⟨e.val,λv n ρ o x y ho hx hy=>?_,r⟩;have b:=JC d hd v q.toList _ g.keys;rw[c]at b;simp only at b;rw[p]at b;unfold execOp;simp[ho,hx,hy,Instr.lookup,Bm υ82,CM (n.trans l),E6 d hd,b,Result.andThen]
theorem ZG{w:Γ}{ρ:Φ}{o:Oper}{m a:Nat}(x:Operand){b:Array MapEntry}(d:o.op= .range 84 x)(e:ρ x= .map (some m))(c:w.heap[m]?=some (.map b a)):(execOp ρ o).run prog w= .ok (.value (π (w.heap.size))) (w.alloc (.mapIter (some m) a #[] a)):=by
 unfold execOp;rw[d];simp only[e,AO,run_range_map w 84 _ _ m b a υ84 c,A4,AV]
structure Vis(es:Array MapEntry)(seen:Array Nat)(ss:List τ):Prop where
 ex:∃vis:List MapEntry,seen.toList=vis.map (·.born)/\vis.map (·.key)=ss.map (λd=>γ (B8 d))/\(vis++(leftOf es seen).toList).Perm es.toList
theorem ZH(a:Array MapEntry):Vis a #[] []:=⟨[],rfl,rfl,by
 rw[AH,show(leftOf a #[]).toList=a.toList from by unfold leftOf;rw[DR];exact List.filter_eq_self.2 (λx _=>by simp)]⟩
theorem UQ{b:Array MapEntry}{a:Array Nat}{e:MapEntry}(j:(b.toList.map (·.born)).Nodup)(c:e∈(leftOf b a).toList):(e::(leftOf b (a.push e.born)).toList).Perm (leftOf b a).toList:=by
 have f:(leftOf b (a.push e.born)).toList=(leftOf b a).toList.filter (λx=>!(x.born==e.born)):=by
  unfold leftOf;rw[DR,DR,List.filter_filter];refine List.filter_congr λx _=>?_;simp only[Array.contains_push];cases a.contains x.born<;>cases k:(x.born==e.born)<;>simp_all
 have d:((leftOf b a).toList.map (·.born)).Nodup:=by
  unfold leftOf;rw[DR];exact j.sublist (List.filter_sublist.map _)
 rw[f];generalize (leftOf b a).toList=l at c d;clear f
 induction l with
 |nil=>cases c
 |cons x r g=>
  rw[Bd,List.nodup_cons]at d;rcases Ay.1 c with rfl|c
  ·have:r.filter (λx=>!(x.born==e.born))=r:=List.filter_eq_self.2 λy h=>by
    simp only[DL,Bo];intro q;exact d.1 (by rw[<-q];exact List.mem_map_of_mem h)
   simp[this]
  ·have i:(x.born==e.born)=false:=by
    rw[Bo];intro q;exact d.1 (by rw[q];exact List.mem_map_of_mem c)
   rw[List.filter_cons,i];exact(List.Perm.swap x e _).trans ((g c d.2).cons x)
theorem Vis.push{a:Array MapEntry}{b:Array Nat}{f:List τ}(h:Vis a b f)(l:(a.toList.map (·.born)).Nodup){e:MapEntry}(g:e∈(leftOf a b).toList){d:τ}(hd:e.key=γ (B8 d)):Vis a (b.push e.born) (f++[d]):=by
 obtain⟨c,j,i,k⟩:=h.ex;refine⟨c++[e],by simp[j],by simp[i,hd],?_⟩;rw[AX];exact((List.perm_append_left_iff c).2 (UQ l g)).trans k
def unB:Δ->τ
 |γ cs=>cs.toList.map λv=>match v with| .int _ x=>x|_=>0
 |_=>[]
theorem Xbg(d:τ):unB (γ (B8 d))=d:=by simp[unB,B8,Function.comp_def]
theorem Vis.done{a:Array MapEntry}{b:Array Nat}{f us:List τ}(h:Vis a b f)(o:(leftOf a b).size=0)(k:Keys a.toList us):f.Perm us:=by
 obtain⟨p,q,m,i⟩:=h.ex;have j:(leftOf a b).toList=[]:=Aw (by simpa using o);rw[j,A7]at i;have g:=i.map (λe=>unB e.key);have c:∀{l:List MapEntry}{ds:List τ},l.map (·.key)=ds.map (λd=>γ (B8 d))->l.map (λe=>unB e.key)=ds:=by
  intro l ds n;rw[show(λe:MapEntry=>unB e.key)=unB∘(λe:MapEntry=>e.key)from rfl,<-DK,n,DK];simp[Function.comp_def,Xbg]
 rw[c m,c k.1]at g;exact g
theorem Vis.len{a:Array MapEntry}{b:Array Nat}{c:List τ}(h:Vis a b c):c.length+(leftOf a b).size=a.size:=by
 obtain⟨i,j,e,f⟩:=h.ex;have d:=Ao List.length e;have g:=f.length_eq;simp at d g;omega
theorem Keys.key{a:List MapEntry}{us:List τ}(h:Keys a us){e:MapEntry}(b:e∈a):∃d∈us,e.key=γ (B8 d):=by
 have:e.key∈a.map (·.key):=List.mem_map_of_mem b;rw[h.1]at this;obtain⟨d,hd,c⟩:=BC.1 this;exact⟨d,hd,c.symm⟩
theorem Qc{a:Array MapEntry}{b:Array Nat}{e:MapEntry}(h:e∈(leftOf a b).toList):e∈a.toList:=by
 unfold leftOf at h;rw[DR]at h;exact(List.mem_filter.1 h).1
structure NsV(w:Γ)(ys:List Δ)(ms:List τ):Prop where
 len:ys.length=ms.length
 at_:∀(j:Nat)(b:τ),ms[j]?=some b->∃a n c,ys[j]?=some (σ a n c)/\Sk An w a n c b/\n<=140737488351232
theorem NsV.nil(w:Γ):NsV w [] []:=⟨rfl,λj b h=>by simp at h⟩
theorem NsV.nt{w w':Γ}{ys:List Δ}{d:List τ}(h:NsV w ys d)(k:Nt w w'):NsV w' ys d:=⟨h.len,λj b g=>by
 obtain⟨a,n,c,e,i,f⟩:=h.at_ j b g;exact⟨a,n,c,e,i.nt k,f⟩⟩
theorem NsV.snoc{w:Γ}{xs:List Δ}{ns:List τ}(h:NsV w xs ns){a:Ω}{n c:Nat}{b:τ}(k:Sk An w a n c b)(l:n<=140737488351232):NsV w (xs++[σ a n c]) (ns++[b]):=⟨by rw[Af,Af,h.len];rfl,λj g d=>by
 have f:=h.len;by_cases e:j<ns.length
 ·rw[Bg e]at d;rw[Bg (by omega)];exact h.at_ j g d
 ·rw[Bn (by omega)]at d;rw[Bn (by omega),f];have i:j-ns.length=0:=by
   have:=(Ar.1 d).1;simpa using this
  rw[i]at d⊢;cases d;exact⟨a,n,c,rfl,k,l⟩⟩
theorem XD{x:Int}(h:isS (η x)):False:=by obtain⟨a,n,c,e⟩:=h;cases e
structure URw(w:Γ)(base:Nat)(v:Δ)(M:List τ):Prop where
 ex:∃xs,w.ownsRow base 32 1 v M.length xs/\NsV w xs M
 sl:SlB w v
theorem URw.own{w:Γ}{base:Nat}{v:Δ}{M:List τ}(h:URw w base v M):∀k,v.ownBlock=some k->base<=k/\k<w.heap.size:=by
 obtain⟨⟨xs,⟨_,d⟩,_⟩,_⟩:=h;intro k a;rcases d with⟨rfl,_⟩|⟨g,cap,cur,rfl,b,c,_⟩
 ·simp[Value.ownBlock]at a
 ·simp only[Value.ownBlock,Cd]at a;subst a;exact⟨b,lt_of_get c⟩
theorem URw.nil(w:Γ)(base:Nat):URw w base (ε) []:=⟨⟨[],Dg w base _ 1,NsV.nil w⟩,SlB.nil w⟩
theorem URw.keep{w w':Γ}{base:Nat}{v:Δ}{M:List τ}(h:URw w base v M)(o:Nt w w')(b:∀k,v.ownBlock=some k->w'.heap[k]?=w.heap[k]?):URw w' base v M:=by
 obtain⟨⟨xs,⟨e,l⟩,f⟩,m⟩:=h;refine⟨⟨xs,⟨e,?_⟩,f.nt o⟩,λk cur T p a i=>m k cur T p a (by rw[<-b k a];exact i)⟩;rcases l with q|⟨g,cap,cur,c,n,d,j⟩
 ·exact .inl q
 ·exact .inr ⟨g,cap,cur,c,n,(b g (by rw[c];rfl)).trans d,j⟩
theorem URw.go{w w':Γ}{base:Nat}{v:Δ}{M:List τ}(h:URw w base v M)(a:Λ w w'):URw w' base v M:=h.keep (Nt.below a) (λk b=>a.block k (h.own k b).2)
theorem URw.nt_of{w w':Γ}{base:Nat}{v:Δ}{M:List τ}(h:URw w base v M)(c:w.grownBy w' v.ownBlock):Nt w w':=λk j x a=>by
 by_cases e:some k=v.ownBlock
 ·obtain⟨⟨xs,⟨_,d⟩,_⟩,f⟩:=h;rcases d with⟨rfl,_⟩|⟨g,cap,cur,rfl,i,b,_⟩
  ·simp[Value.ownBlock]at e
  ·simp only[Value.ownBlock,Cd]at e;subst e;rw[Aj _ _ _ _ _ _ b]at a;rw[<-BB]at a;exact(XD (f k cur _ _ rfl b _ (AL a))).elim
 ·exact(Av (w:=w) (c.block k (Al a) e)).trans a
theorem XbC{w:World}{base:Nat}(t:base<=w.heap.size){v:Value}{M:List (List Int)}(d:URw w base v M){g:Nat}{a:Option Addr}{n c:Nat}{b:List Int}(z:Rw g w #[.slice a n c] 32)(A:Sk An w a n c b)(C:n<=140737488351232)(E:M.length+1<=5864062014805):
 ∃v' w',(∀ty,(Builtin.append_ #[30,30] ty #[v, .slice (some ⟨g,0,none⟩) 1 1]).run prog w= .ok v' w')/\URw w' base v' (M++[b])/\w.grownBy w' v.ownBlock/\Nt w w':=by
 obtain⟨i,q,r,o,k⟩:=Xbf;obtain⟨⟨xs,p,D⟩,B⟩:=id d;have f:∀j u,([.slice a n c]:List Value)[j]?=some u->w.cell? ((⟨g,0,none⟩:Addr).add j)=some u:=λj u d=>by
  rw[BO,A6,Aj _ _ _ _ _ _ z]
  match j with
  |0=>exact d
  |n+1=>simp at d
 obtain⟨v',w',h,s,l,_⟩:=ET (P:=prog) w base 30 0 32 i _ 1 24 underlying30 q r o k rfl (by decide) v M.length xs p ⟨g,0,none⟩ 1 1 [.slice a n c] rfl f (λy x=>by rw[Bz.1 x];rfl) (by unfold maxLen;omega) (by omega) t;have e:=d.nt_of l;refine⟨v',w',λty=>h,⟨⟨_,by rw[Af];exact s,(D.nt e).snoc (A.nt e) C⟩,?_⟩,l,e⟩;exact Xbe (ty:=0) (m:=1) (c:=1) (a:=⟨g,0,none⟩) (news:=[.slice a n c]) underlying30 q r o k p B rfl f (λu d=>by rw[Bz.1 d];exact⟨a,n,c,rfl⟩) (by omega) (by unfold maxLen;omega) (by omega) h
theorem _root_.Go.Proofs.YtkdlocloepbmcaaGreat.Rw.gr{g:Nat}{w w':Γ}{cells:Ξ}{T:TypeId}{a:Option Nat}(h:Rw g w cells T)(c:w.grownBy w' a)(b:∀k,a=some k->k≠g):Rw g w' cells T:=(c.block g (lt_of_get h) (λe=>b g e.symm rfl)).trans h
def RUs(w:Γ)(M:List τ):Δ->Γ->Prop:=λu w'=>(∃a n c L,u=σ a n c/\NsA w' a n c L/\L.Perm M/\L.Pairwise (λp q=>lessP q p=false))/\Bl w w'
theorem Xbh{w w0:Γ}(t:Bl w0 w){base:Nat}(ad:w0.heap.size<=base){v:Δ}{M:List τ}(W:URw w base v M)(I:M=[]->v=ε)(af:M.length<=5864062014805):κ 44 #[v, .func (.func 45) #[] #[]] w λu w'=>(u=θ #[]/\RUs w0 M v w'):=by
 obtain⟨⟨xs,V,F⟩,X⟩:=id W;rcases V.2 with⟨rfl,S⟩|⟨gb,cap,cur,rfl,ae,s,P,ac,Q,A⟩
 ·have q:M=[]:=List.length_eq_zero_iff.1 S;subst q;refine(Xbd (w:=w)).mono ?_;rintro e w'⟨u,rfl,rfl,T⟩;exact⟨_,rfl,rfl,⟨none,0,0,[],rfl,⟨rfl,λj b h=>by simp at h⟩,List.Perm.refl _,List.Pairwise.nil⟩,t.go T⟩
 ·have hl:=F.len;rw[BE]at A Q;have o:(xs.zip M).length=M.length:=by rw[List.length_zip];omega
  have G:(xs.zip M).map Prod.fst=xs:=List.map_fst_zip (by omega);have H:(xs.zip M).map Prod.snd=M:=List.map_snd_zip (by omega);have z:∀p∈xs.zip M,Gd (λb=>b≠gb) w p/\∃a n c,p.1=σ a n c/\n<=140737488351232:=by
   intro p f;obtain⟨j,d⟩:=List.getElem?_of_mem f;rw[List.getElem?_zip_eq_some]at d;obtain⟨a,n,c,g,m,Z⟩:=F.at_ j p.2 d.2;rw[d.1]at g;refine⟨⟨a,n,c,BJ g,m.ag,λx E hn=>?_⟩,a,n,c,BJ g,Z⟩;intro r;rcases m.ag.i with⟨k,y⟩|⟨D,off,k,y,q3,q4,q5,R⟩
   ·omega
   ·rw[k]at E;cases E;have r:D=gb:=r;subst r;have:=R 0 (by omega);rw[Aj _ _ _ _ _ _ s,<-BB]at this;exact XD (X D cur _ _ rfl s _ (AL this))
  by_cases U:M.length=0
  ·have q:M=[]:=List.length_eq_zero_iff.1 U;cases I q
  ·refine(sort_bytes (K:=λb=>b≠gb) (ps:=xs.zip M) s (by rw[G];exact A) (cap:=cap) (by omega) o P (λp f=>(z p f).1) (λh=>h rfl) (by omega) (by omega)).mono ?_;rintro e w'⟨u,rfl,rfl,⟨B,ab,f,L,J,O,aa⟩,C⟩;refine⟨_,rfl,rfl,⟨_,_,_,B.map Prod.snd,rfl,⟨?_,λj b d=>?_⟩,?_,?_⟩,C.below t (by omega) t.size⟩
   ·rw[AQ,f.length_eq,o]
   ·rw[AZ]at d;cases i:B[j]? with
    |none=>rw[i]at d;cases d
    |some p=>
     rw[i]at d;cases d;obtain⟨Y,a1,n1,c1,k,y⟩:=z p (f.mem_iff.1 (AL i));obtain⟨a,n,c,g,m⟩:=Y.tou C (λh=>h rfl);rw[k]at g;cases g;refine⟨gb,0,a1,n1,c1,rfl,?_,m.any,y⟩;rw[A6,BE,Aj _ _ _ _ _ _ J,<-BB];have N:j<M.length:=by
      have:=(Ar.1 i).1;rw[f.length_eq,o]at this;exact this
     have:=Ao (λl=>l[j]?) O;simp only[AT N,AZ,i,B7,k]at this;exact this
   ·have:=f.map Prod.snd;rw[H]at this;exact this
   ·rw[Dj];exact L
theorem used_any{w:Γ}{g gK gU:Nat}{t0:Pt}{kn:Kn}{us:List τ}(p:PAt w g gK gU t0 kn us)(am:∀d∈us,∃t,findK d kn=some t)(b1:us.length<=5864062014800):Calls prog 27 #[π g] w λe w'=>∃v',e=ω v'/\RUs w (us.map (usB kn)) v' w':=by
 have b0:=p.lt;have bv:=p.km.lt;have ad:=p.um.lt;obtain⟨B,c,V,I,O⟩:=p.um;obtain⟨vt,a3,bu⟩:=p.row;have bn:B.size=us.length:=by have:=Ao List.length I.1;simpa using this
 have a:Bl w w:=Bl.refl w;refine Ck func27 27<|Hl 16 a3 2 84 (.map (some gU)) ?_;obtain⟨gI,ah⟩:∃q,w.heap.size=q:=⟨_,rfl⟩;refine Hx 0 (og f27 2 4) (π gI) (λ_=>by rw[<-ah];exact ZG _ rfl (by kernel_rfl) V) ?_;have b:(w.alloc (.mapIter (some gU) c #[] c)).heap[gI]?=some (.mapIter (some gU) c #[] c):=by rw[<-ah];exact Ak _ _
 have Y:Bl w (w.alloc (.mapIter (some gU) c #[] c)):=(Ac _ _).alloc (Ab _) _;obtain⟨w2,aw⟩:∃q,w.alloc (.mapIter (some gU) c #[] c)=q:=⟨_,rfl⟩;rw[aw]at b Y⊢;replace a:=Y;clear Y;have bk:=lt_of_get b;obtain⟨gB,bi⟩:∃q,w2.heap.size=q:=⟨_,rfl⟩;refine Ho (X:=Array Nat×List τ×Δ) 3 (λx=>[(3,x.2.2),(9,π gI),(2,ε),(0,π g)]) (λx v=>Bl w v/\gB<=v.heap.size/\v.heap[gI]?=some (.mapIter (some gU) c x.1 c)/\Vis B x.1 x.2.1/\URw v gB x.2.2 (x.2.1.map (usB kn))/\(x.2.1=[]->x.2.2=ε)) (λx=>(leftOf B x.1).size) (#[],[],ε) ⟨a,by rw[bi];exact Ab _,b,ZH B,URw.nil _ _,λ_=>rfl⟩ ?_;clear a b;rintro⟨y,ss,sl⟩ v⟨a,i,b,D,l,aa⟩ I1 ba;simp only at b D l aa;have K:=p.go a;have Q:=(a.block gU ad).trans V;have bw:=D.len;rcases run_next_at (P:=prog) v 0 gI gU c c y B c b Q O.1 (Ab _)with⟨hz,N⟩|⟨e,T,w1,ae,N⟩
 ·skip
  refine Hx 2 (og f27 3 0) (θ #[β false]) (λ_=>R9 _ _ _ _ rfl (by kernel_rfl) N)<|Hc 13 (R:=λu w'=>u=θ #[]/\RUs w (ss.map (usB kn)) sl w') (Xbh a (by omega) l (λn=>aa (List.map_eq_nil_iff.1 n)) (by rw[AQ];omega)) ?_;rintro _ w1⟨rfl,a0⟩;refine Hr 9 (sl) ?_;obtain⟨⟨aU,nU,cU,L,rfl,a7,bh,a6⟩,a8⟩:=a0;exact⟨_,rfl,⟨aU,nU,cU,L,rfl,a7,bh.trans ((D.done hz I).map _),a6⟩,a8⟩
 ·skip
  refine Hx 2 (og f27 3 0) (θ #[β true,e.key,e.val]) (λ_=>R9 _ _ _ _ rfl (by kernel_rfl) N) ?_;obtain⟨d,ai,U⟩:=I.key (Qc T);have hd:=I.2 d ai;obtain⟨t,hf⟩:=am d ai;obtain⟨x9,a4,ar⟩:=FI hf;have bb:t.isNd=true:=by rw[<-ar];exact(p.ok x9 a4).2
  have E:Touch gI v (setBlock w1 gI (.mapIter (some gU) c (y.push e.born) c)):=by
   rcases ae with rfl|rfl
   ·exact CY _ _ _
   ·exact(Touch.drew gI v).trans (CY _ _ _)
  have S:(setBlock w1 gI (.mapIter (some gU) c (y.push e.born) c)).heap[gI]?=some (.mapIter (some gU) c (y.push e.born) c):=by
   rcases ae with rfl|rfl
   ·exact EB b
   ·exact EB (w:=v.drew) b
  obtain⟨w3,av⟩:∃q,(setBlock w1 gI (.mapIter (some gU) c (y.push e.born) c))=q:=⟨_,rfl⟩;rw[av]at S E⊢;have ao:Nt v w3:=Nt.touch E (λo9 n=>by rw[b]at n;cases n;exact λj=>j.elim);replace l:=l.keep ao (λm af=>E.block m (l.own m af).2 (by have:=(l.own m af).1;omega));replace i:gB<=w3.heap.size:=Au i E.size;replace a:=a.tou E (by omega);replace Q:=(a.block gU ad).trans V;replace K:=p.go a;clear b;have b:=S;clear S;rw[U];refine Hx 10 (og f27 4 0) (θ #[γ (B8 d),e.val]) (λ_=>Va _ _ _ rfl (by kernel_rfl) (by rw[<-U];exact run_entry_at (P:=prog) w3 gI gU c y B c e b Q (Qc T) O.2))<|Hn 1 (B8 z32) 44 ?_;intro w2 r o ac;refine Hy 0 (og f27 4 3) r (B8 d) (λ_=>AM 44 _ _ _ _ _ 44 rfl (by kernel_rfl) (by kernel_rfl) ac (D5 hd) ((B8_size _).trans ((show z32.length=32 from rfl).trans (hd.symm.trans (B8_size _).symm))) (B8_one _)) ?_;intro s bc;clear ac;replace o:=o.put bc;have ak:∀k,sl.ownBlock=some k->k<r:=λm j=>by have:=(l.own m j).2;have:=o.hg;omega
  have bo:w.heap.size<=r:=by have:=a.size;have:=o.hg;omega
  replace a:=a.go o.below;replace b:=(o.below.block _ (lt_of_get b)).trans b;replace i:=Au i (Bl.size o.below);replace l:=l.go o.below;have bf:Rw r s (B8 d) 44:=o.row;replace K:=p.go a;obtain⟨F,ap,bl⟩:=K.row;obtain⟨lv,a1,W⟩:=XC K.km hd hf;have f:(λv=>v.heap[gK]?=(s).heap[gK]?/\Rw g v #[F, .map (some gK), .map (some gU)] 87/\Rw r v (B8 d) 44) s:=⟨rfl,ap,bf⟩;have G:∀{v v':Γ},Λ v v'->(λv=>v.heap[gK]?=(s).heap[gK]?/\Rw g v #[F, .map (some gK), .map (some gU)] 87/\Rw r v (B8 d) 44) v->gK<v.heap.size->(λv=>v.heap[gK]?=(s).heap[gK]?/\Rw g v #[F, .map (some gK), .map (some gU)] 87/\Rw r v (B8 d) 44) v':=λZ h hk=>⟨(Z.block _ hk).trans h.1,h.2.1.go Z,h.2.2.go Z⟩;refine Fq 2 (λv=>v.heap[gK]?=(s).heap[gK]?/\Rw g v #[F, .map (some gK), .map (some gU)] 87/\Rw r v (B8 d) 44) (f) ?_;replace f:=G (Ac _ _).drew f (by have:=a.size;omega);replace b:=((Ac _ _).drew.block _ (lt_of_get b)).trans b;replace i:=Au i (Bl.size (Ac _ _).drew);refine Dl [0,1,2,3] 4 (λv H=>H.2.1) 1 82 (.map (some gK)) f<|Dx [] 5 (og f27 5 5) (γ (B8 d)) (λv H _=>BW 44 _ _ _ _ _ _ rfl (by kernel_rfl) H.2.2 υ44 rfl (D5 hd)) f<|Dx [] 6 (og f27 5 6) (lv) (λv H _=>a1 v H.1 _ _ _ _ rfl (by kernel_rfl) (by kernel_rfl)) f<|Dz [7] ?_;replace a:=a.go (Ac _ _).drew;replace W:=W.go (Ac _ _).drew;refine Yc 7 (R:=REn s.drew (encN (ndT t))) (Xb9 bb W) (λu w' n=>G n.2 f (by have:=a.size;omega)) ?_ yn;rintro _ bq⟨⟨ay,a2,aq,rfl,M,bm⟩,C⟩;replace f:=G C f (by have:=a.size;omega);replace b:=(C.block _ (lt_of_get b)).trans b;replace i:=Au i (Bl.size C);refine Dz [8] ?_;replace a:=a.go C;refine ZQ 8 #[σ ay a2 aq] 32 1 (λw' g n=>G n.below f (by have:=a.size;omega)) ?_ yn;intro bx bp z al;replace f:=G z.below f (by have:=a.size;omega);replace b:=(z.below.block _ (lt_of_get b)).trans b;replace i:=Au i (Bl.size z.below);refine Dz [9] ?_;replace l:=((l.go (Ac _ _).drew).go C).go z.below;replace M:=M.go z.below;obtain⟨vA,wA,a5,ax,A,bz⟩:=XbC i l al M (by omega) (by rw[AQ];omega);have J:=l.own;replace a:=a.go z.below;have ab:(λv=>v.heap[gK]?=(s).heap[gK]?/\Rw g v #[F, .map (some gK), .map (some gU)] 87/\Rw r v (B8 d) 44) wA:=⟨(A.block gK (by have:=a.size;omega) (λj=>by have:=(J gK j.symm).1;omega)).trans f.1,f.2.1.gr A (λm j=>by have:=(J m j).1;omega),f.2.2.gr A (λm j=>by have:=ak m j;omega)⟩;refine Yx 9 (og f27 5 9) vA (λ_=>ZF a5 _ _ rfl (by kernel_rfl) (by kernel_rfl)) ab ?_ yn;have bg:=(A.block gI (lt_of_get b) (λj=>by have:=(J gI j.symm).1;omega)).trans b;replace a:=a.grown A a.size (λm j=>by have:=(J m j).1;omega);replace i:=Au i A.size;refine Dq [10] ab ?_;have a9:usB kn d=encN (ndT t):=by unfold usB;rw[hf]
  have aj:=D.push O.2 T U;have az:=aj.len;have bj:=D.len;exact ba 1 (y.push e.born,ss++[d],vA) ⟨a,i,bg,aj,by simp only[Bp,Bd,BY,a9];exact ax,λn=>by simp at n⟩ (by simp only[Af,AE,BV]at az⊢;omega) (λ_=>by kernel_rfl)
end
end Pa
section
open Tr
theorem Ru{K:Θ}{w w':Γ}{g:Nat}{t:Tr}(h:Tri K w g t)(b:Touch g w w'):Pa.Nt w w':=λk j x a=>by
 by_cases e:k=g
 ·subst e;exact absurd a (h.noint _ _ _)
 ·exact(Av (w:=w) (b.block k (Al a) e)).trans a
structure Ts(A:Θ)(w w':Γ):Prop where
 os:w'.os=w.os
 tape:w'.tape=w.tape
 output:w'.output=w.output
 size:w.heap.size<=w'.heap.size
 block:∀k,k<w.heap.size->¬A k->w'.heap[k]?=w.heap[k]?
 n:Pa.Nt w w'
section
variable {A B K : Nat → Prop} {w w' w'' w0 : World}
theorem Ts.trans(h:Ts A w w')(k:Ts A w' w''):Ts A w w'':=⟨k.os.trans h.os,k.tape.trans h.tape,k.output.trans h.output,Au h.size k.size,λi b a=>(k.block i (BQ b h.size) a).trans (h.block i b a),h.n.trans k.n⟩
theorem Ts.mono(h:Ts A w w')(a:∀b,A b->B b):Ts B w w':=⟨h.os,h.tape,h.output,h.size,λk c d=>h.block k c (λq=>d (a k q)),h.n⟩
theorem Ts.of_below(h:Λ w w'):Ts A w w':=⟨Below.os h,Below.tape h,Below.output h,Below.size h,λk a _=>BF h k a,Pa.Nt.below h⟩
theorem Ts.of_t2{g gU:Nat}(h:Pa.T2 g gU w w'):Ts (λb=>b=g∨b=gU) w w':=⟨h.os,h.tape,h.output,h.size,λk c a=>h.block k c (λe=>a (.inl e)) (λe=>a (.inr e)),h.n⟩
theorem Ts.of_touch{g:Nat}(h:Touch g w w')(d:Pa.Nt w w'):Ts (λb=>b=g) w w':=⟨h.os,h.tape,h.output,h.size,λk c a=>h.block k c a,d⟩
theorem Ts.below(h:Ts A w w')(a:Bl w0 w)(b:∀k,A k->w0.heap.size<=k):Bl w0 w':=
 Cr a ⟨h.os,h.tape,h.output,h.size,λk c=>h.block k (BQ c (Bl.size a)) (λq=>by have:=b k q;omega)⟩
theorem Rw.ts{g:Nat}{cells:Ξ}{T:TypeId}(h:Rw g w cells T)(t:Ts A w w')(a:¬A g):Rw g w' cells T:=(t.block g (lt_of_get h) a).trans h
theorem Sk.ts{a:Ω}{n c:Nat}{bs:τ}(h:Sk K w a n c bs)(t:Ts A w w'):Sk K w' a n c bs:=h.nt t.n
theorem TA.ts(f:Ts A w w'):∀{t:Tr}{v:Δ},TA K w t v->TA K w' t v:=by
 intro t
 induction t with
 |no=>intro v h;exact h
 |leaf p x=>rintro v⟨a,n,c,a',n',c',d,b,e,j⟩;exact⟨a,n,c,a',n',c',d,b.ts f,e.ts f,j⟩
 |ext p t g=>rintro v⟨a,n,c,u,d,b,e⟩;exact⟨a,n,c,u,d,b.ts f,g e⟩
 |br k x g=>rintro v⟨vs,a,n,c,d,b,e,j⟩;exact⟨vs,a,n,c,d,λi l=>g i (b i l),e.ts f,j⟩
theorem Tri.ts{g:Nat}{t:Tr}(h:Tri K w g t)(a:Ts A w w')(c:¬A g):Tri K w' g t:=by
 obtain⟨⟨v,b,e⟩,d⟩:=h;exact⟨⟨v,b.ts a c,e.ts a⟩,d⟩
theorem PAt.ts{a:Ω}{n c:Nat}{vs:List (Δ×Δ)}{l:PList}(h:PAt K w a n c vs l)(g:Ts A w w')(t:∀b,K b->¬A b):PAt K w' a n c vs l:=by
 refine⟨h.vl,h.ll,h.nc,h.nil,λj u i=>?_,λj p e f d=>?_,h.rk⟩
 ·obtain⟨g',off,f,d⟩:=h.row j u i;have k:j<(flatP vs).length:=(Ar.1 i).1;rw[El,h.vl]at k;exact⟨g',off,f,(Av (a:=⟨g',off+j,none⟩) (g.block g' (Al d) (t _ (h.rk _ f (by omega))))).trans d⟩
 ·obtain⟨o,q,c1,r,v,c2,s,y,x,m⟩:=h.gd j p e f d;exact⟨o,q,c1,r,v,c2,s,y,x.ts g,m.ts g⟩
theorem O6{g g':Nat}{c c':Ξ}{T b:TypeId}(h:Rw g w c T)(a:Rw g' w c' b)(d:T≠b):g≠g':=by
 rintro rfl;rw[Rw]at h a;rw[h]at a;simp at a;exact d a.2
theorem O7{g m:Nat}{c:Ξ}{T:TypeId}{d:Array MapEntry}{b:Nat}(h:Rw g w c T)(a:w.heap[m]?=some (.map d b)):g≠m:=by
 rintro rfl;rw[Rw]at h;rw[h]at a;cases a
end
def RA(gt gp gU:Nat):Θ:=λb=>b=gt∨b=gp∨b=gU
abbrev RCell(gt gp:Nat):Ξ:=#[π gt,π gp]
structure Rec(K:Θ)(w:Γ)(gr gt gp gK gU:Nat)(t:Tr)(pt:Pa.Pt)(kn:Pa.Kn)(us:List τ):Prop where
 r:Rw gr w (RCell gt gp) 48
 t:Tri K w gt t
 p:Pa.PAt w gp gK gU pt kn us
section
variable {A K : Nat → Prop} {w w' u v : World} {gr gt gp gK gU : Nat} {t t' : Tr} {pt pt' : Pa.Pt} {kn : Pa.Kn} {us us' : List (List Int)}
theorem Rec.go(h:Rec K w gr gt gp gK gU t pt kn us)(a:Λ w w'):Rec K w' gr gt gp gK gU t pt kn us:=⟨h.r.go a,h.t.go a,h.p.go a⟩
theorem Rec.ne(h:Rec K w gr gt gp gK gU t pt kn us):(gr≠gt/\gr≠gp/\gr≠gU/\gr≠gK)/\gt≠gp/\gt≠gU/\gt≠gK:=by
 obtain⟨⟨v,a,_⟩,_⟩:=h.t;obtain⟨v',b,_⟩:=h.p.row;obtain⟨i,f,d,_⟩:=h.p.um;obtain⟨g,e,c,_⟩:=h.p.km;exact⟨⟨O6 h.r a (by decide),O6 h.r b (by decide),O7 h.r d,O7 h.r c⟩,O6 a b (by decide),O7 a d,O7 a c⟩
theorem Rec.lt(h:Rec K w gr gt gp gK gU t pt kn us):gr<w.heap.size/\gt<w.heap.size/\gp<w.heap.size/\gU<w.heap.size/\gK<w.heap.size:=⟨lt_of_get h.r,h.t.lt,h.p.lt,h.p.um.lt,h.p.km.lt⟩
theorem Rec.tri(h:Rec K w gr gt gp gK gU t pt kn us)(a:Pa.T2 gp gU w u):Tri K u gt t:=h.t.ts (Ts.of_t2 a) (λq=>q.elim h.ne.2.1 h.ne.2.2.1)
theorem Rec.row(h:Rec K w gr gt gp gK gU t pt kn us)(a:Pa.T2 gp gU w u):Rw gr u (RCell gt gp) 48:=h.r.ts (Ts.of_t2 a) (λq=>q.elim h.ne.1.2.1 h.ne.1.2.2.1)
theorem Rec.fin(h:Rec K w gr gt gp gK gU t pt kn us)(d:Pa.T2 gp gU w u)(c:Pa.PAt u gp gK gU pt' kn us')(i:Tri K v gt t')(a:Touch gt u v):Rec K v gr gt gp gK gU t' pt' kn us'/\Ts (RA gt gp gU) w v:=by
 have g:=Ru (h.tri d) a;have k:=d.size;have j:=h.lt;refine⟨⟨((h.row d).ts (Ts.of_touch a g) h.ne.1.1),i,?_⟩,((Ts.of_t2 d).mono (λb f=>f.elim (λe=> .inr (.inl e)) (λe=> .inr (.inr e)))).trans ((Ts.of_touch a g).mono (λb f=> .inl f))⟩;exact c.keep g (a.block _ c.lt h.ne.2.1.symm) (a.block _ c.km.lt h.ne.2.2.2.symm) (c.um.keep (a.block _ c.um.lt h.ne.2.2.1.symm))
theorem Rec.ts(h:Rec K w gr gt gp gK gU t pt kn us)(a:Ts A w v)(b:¬A gr/\¬A gt/\¬A gp/\¬A gU/\¬A gK):Rec K v gr gt gp gK gU t pt kn us:=
 ⟨h.r.ts a b.1,h.t.ts a b.2.1,h.p.keep a.n (a.block _ h.p.lt b.2.2.1) (a.block _ h.p.km.lt b.2.2.2.2) (h.p.um.keep (a.block _ h.p.um.lt b.2.2.2.1))⟩
end
def dsT(t:Tr)(z:Int)(k x:τ):Tr:=if z=0 then putT t k x else if z=1 then delT t k else t
def dsL(l:PList)(z:Int)(k x:τ):PList:=if z=0 then putL l k x else if z=1 then delL l k else l
theorem Rel.ds{t:Tr}{l:PList}(h:Rel t l){z:Int}{k x:τ}(a:Byk k):Rel (dsT t z k x) (dsL l z k x):=by
 unfold dsT dsL;split
 ·exact h.put a
 ·split
  ·exact h.del a
  ·exact h
theorem Rel.klen{t:Tr}{l:PList}(h:Rel t l):∀(j:Nat) k x,l[j]?=some (k,x)->k.length<=1000000:=λj k x e=>by have:=((h.m k x).1 (AL e)).2.1;omega
end
section
open Tr
open Ni (unpP packP rightP)
variable {p : List Int} {n : PN}
def Vb:Tr->Prop
 |no=>True
 |leaf p v=>isB p/\isB v/\v.length<=256
 |ext p c=>isB p/\Vb c
 |br k v=>(isB v/\v.length<=256)/\∀i,i<16->Vb (k i)
theorem TA.vb{K:Θ}{w:Γ}:∀{t:Tr}{v:Δ},TA K w t v->Vb t:=by
 intro t
 induction t with
 |no=>intro v h;trivial
 |leaf p x=>rintro v⟨a,n,c,a',n',c',g,d,b,f⟩;exact⟨d.ag.b,b.ag.b,by rw[b.ag.l];exact f⟩
 |ext p t e=>rintro v⟨a,n,c,u,g,d,b⟩;exact⟨d.ag.b,e b⟩
 |br k x e=>rintro v⟨vs,a,n,c,g,d,b,f⟩;exact⟨⟨b.ag.b,by rw[b.ag.l];exact f⟩,λi j=>e i (d i j)⟩
theorem Qd(h:Nb p):rightP p=true:=by
 unfold rightP;rw[Dw];intro x a;have:=h x a;simp;omega
theorem KV:∀{l:List T},(∀t∈l,byt t)->byts l
 |[],_=>by rw[byts];trivial
 |t::r,h=>by rw[byts];exact⟨h t (by simp),KV λu a=>h u (Az _ a)⟩
theorem SS(b:τ)(h:isB b):okR (referP b):=by
 unfold referP;split
 ·exact⟨λx a=>by rw[Ce.1 a|>.2];omega,rfl,h⟩
 ·exact⟨GS b,Di.dref_len b,λx a=>by simp at a⟩
theorem XE:okR r0:=⟨λx a=>by rw[Ce.1 a|>.2];omega,rfl,λx a=>by simp[r0]at a⟩
structure Wn(n:PN):Prop where
 ok:okN n
 r:NR n=true
 y:byt (itemP n)
theorem Wn.isB(h:Wn n):isB (NEP n).1/\ND (NEP n).1=some n/\(NEP n).1.length<=65540:=by
 have b:=Ek h.ok h.r;unfold NEP;rw[Ai h.r];have a:Go.Proofs.YtkdlocloepbmcaaGreat.isB (NE n):=Lq _ h.y (by have:=EN (itemP n);have:=b.2.2;omega);exact⟨a,VR h.ok h.r a,b.2.2⟩
theorem Wn.ref(h:Wn n):rrefP KD (referP (NEP n).1)=true/\(referP (NEP n).1).k≠0/\((referP (NEP n).1).k=2∨KD (referP (NEP n).1).i=n.k)/\byt (refItemP (referP (NEP n).1)):=by
 obtain⟨d,c,f⟩:=h.isB;have e:=KF h.r;have b:KD (NEP n).1=n.k:=by unfold KD;rw[c];rfl
 unfold referP;by_cases a:(NEP n).1.length<32
 ·rw[Ai a];refine⟨by simp[rrefP,a,b];omega,by simp, .inr b,?_⟩;have hd:decP (NEP n).1= .ok (itemP n):=by unfold NEP;rw[Ai h.r];exact Jh (Ek h.ok h.r).1
  simp only[refItemP,Ai,hd];exact h.y
 ·rw[Ae a];refine⟨by simp[rrefP],by simp, .inl rfl,?_⟩;show byt (.mk false (Di.dref (NEP n).1) []);rw[GJ];exact⟨GS _,by rw[byts];trivial⟩
theorem XF(h:isB p)(f:Bool):byt (.mk false (packP p f).1 []):=by rw[GJ];exact⟨Ni.packP_isB h,by rw[byts];trivial⟩
theorem XG(h:isB p):byt (.mk false p []):=by rw[GJ];exact⟨h,by rw[byts];trivial⟩
theorem XH{k:Nat->Tr}{x:τ}(h:Tr.two k x)(z:∀i,k i=no∨i<16)(f:Nat->PR)(o:∀i,k i≠no->(f i).k≠0):2<=(if 0<x.length then 1 else 0)+ways ((List.range 16).map f):=by
 have v:∀n i,i<n->(f i).k≠0->1<=ways ((List.range n).map f):=by
  have p:∀a b:List PR,ways (a++b)=ways a+ways b:=by
   intro a b
   induction a with
   |nil=>simp[ways]
   |cons r l d=>simp only[BS,ways,d];omega
  intro n
  induction n with
  |zero=>intro i c;omega
  |succ n d=>
   intro i c g;rw[CO,Bp,p];by_cases e:i=n
   ·subst e;simp only[Bd,BY,ways,Ai g];omega
   ·have:=d i (by omega) g;omega
 have u:∀n i j,i<j->j<n->(f i).k≠0->(f j).k≠0->2<=ways ((List.range n).map f):=by
  have p:∀a b:List PR,ways (a++b)=ways a+ways b:=by
   intro a b
   induction a with
   |nil=>simp[ways]
   |cons r l d=>simp only[BS,ways,d];omega
  intro n
  induction n with
  |zero=>intro i j _ m;omega
  |succ n d=>
   intro i j t m g w;rw[CO,Bp,p];by_cases e:j=n
   ·subst e;have:=v j i t g;simp only[Bd,BY,ways,Ai w];omega
   ·have:=d i j t (by omega) g w;omega
 have s:∀i,k i≠no->i<16:=λi c=>(z i).resolve_left c;rcases h with⟨i,j,y,c,m⟩|⟨A,i,c⟩
 ·have:2<=ways ((List.range 16).map f):=by
   rcases Nat.lt_or_gt_of_ne y with q|q
   ·exact u 16 i j q (s j m) (o i c) (o j m)
   ·exact u 16 j i q (s i c) (o j m) (o i c)
  omega
 ·have B:=v 16 i (s i c) (o i c);have:0<x.length:=BH.2 A;rw[Ai this];omega
theorem Rv:∀(t:Tr){B:Nat},Tr.Ok B t->B<=64->Vb t->Wn (nodeP t):=by
 intro t
 induction t with
 |no=>intro B h;exact h.elim
 |leaf p x=>
  intro B h w d;obtain⟨n,m,v⟩:=h;obtain⟨G,I,N⟩:=d;have J:0<x.length:=BH.2 v;refine⟨⟨G,I,XE,λr a=>by simp[nodeP]at a⟩,?_,?_⟩
  ·have a:=Qd n;simp[NR,nright,nodeP,knownP,rpathP,rvalueP,rchildP,rkidsP,rrefP,r0,a];exact⟨AF (Au m w),v,AF N⟩
  ·show byt (.mk true [] [.mk false (packP p true).1 [], .mk false x []]);rw[GJ]
   exact⟨(λy f=>by simp at f),KV λu j=>by
    simp at j;rcases j with rfl|rfl
    ·exact XF G true
    ·exact XG I⟩
 |ext p c D=>
  intro B h w d;obtain⟨n,m,v,C,H⟩:=h;have o:=D H (by omega) d.2;have L:c≠no:=H.ne;have Q:=DU L;obtain⟨w1,R,A,E⟩:=o.ref;obtain⟨K,S,U⟩:=o.isB;have M:(nodeP c).k=3:=by cases c with
   |br k x=>rfl
   |no=>cases C
   |leaf _ _=>cases C
   |ext _ _=>cases C
  rw[<-Q]at w1 R A E K;rw[M]at A;refine⟨⟨d.1,(λx J=>by simp[nodeP]at J),SS _ K,λr a=>by simp[nodeP]at a⟩,?_,?_⟩
  ·have a:=Qd n;have T:p.length≠0:=λe=>m (Aw e);simp only[NR,nright,nodeP,knownP,rpathP,rvalueP,rchildP,rkidsP,w1,a];simp[m];exact⟨AF (Au v w),A.imp (λq=>AF q) (λq=>AF q)⟩
  ·show byt (.mk true [] [.mk false (packP p false).1 [],refItemP (referP (encT c))]);rw[GJ]
   exact⟨(λy f=>by simp at f),KV λu j=>by
    simp at j;rcases j with rfl|rfl
    ·exact XF d.1 false
    ·exact E⟩
 |br k x D=>
  intro B h w d;obtain⟨n,m⟩:=h;have s:∀i,k i≠no->i<16/\Wn (nodeP (k i)):=λi g=>by
   rcases n i with q|⟨F,V,P⟩
   ·exact absurd q g
   ·exact⟨F,D i P (by omega) (d.2 i F)⟩
  have l:∀i,(k i).isNo=false->k i≠no:=λi g e=>by rw[e]at g;cases g
  have z:∀r∈(nodeP (br k x)).ks,∃i,r=if(k i).isNo then r0 else referP (encT (k i)):=by
   intro r a;simp only[nodeP,BC]at a;obtain⟨i,_,e⟩:=a;exact⟨i,e.symm⟩
  refine⟨⟨(λy f=>by simp[nodeP]at f),d.1.1,XE,λr a=>?_⟩,?_,?_⟩
  ·obtain⟨i,rfl⟩:=z r a;cases b:(k i).isNo with
   |true=>rw[Ai rfl];exact XE
   |false=>
    rw[Ae (by simp),DU (l i b)];exact SS _ (s i (l i b)).2.isB.1
  ·have O:(nodeP (br k x)).ks.all (rrefP KD)=true:=by
    rw[Dw];intro r a;obtain⟨i,rfl⟩:=z r a;cases b:(k i).isNo with
    |true=>rw[Ai rfl];simp[rrefP,r0]
    |false=>
     rw[Ae (by simp),DU (l i b)];exact(s i (l i b)).2.ref.1
   have o:=XH m (λi=>(n i).imp id (λq=>q.1)) (λi=>if(k i).isNo then r0 else referP (encT (k i))) (λi g=>by
    have b:(k i).isNo=false:=by
     cases b:(k i).isNo with
     |false=>rfl
     |true=>exact absurd (isNo_iff.1 b) g
    simp only[b];rw[Ae (by simp),DU g];exact(s i g).2.ref.2.1)
   simp only[NR,nright,knownP,rpathP,rvalueP,rchildP,rkidsP,O];simp only[nodeP]at o⊢;simp[rrefP,r0]at o⊢;exact⟨AF d.1.2,AF o⟩
  ·show byt (.mk true [] ((nodeP (br k x)).ks.map refItemP++[.mk false x []]));rw[GJ];refine⟨(λy f=>by simp at f),KV λu j=>?_⟩;rcases AP.1 j with q|q
   ·obtain⟨r,a,rfl⟩:=BC.1 q;obtain⟨i,rfl⟩:=z r a;cases b:(k i).isNo with
    |true=>rw[Ai rfl];exact XG (p:=[]) (λy f=>by simp at f)
    |false=>
     rw[Ae (by simp),DU (l i b)];exact(s i (l i b)).2.ref.2.2.2
   ·rw[Bz.1 q];exact XG d.1.1
def Kys(p:τ)(t:Tr):Prop:=Nb p/\∀q,Nb q->Tr.get t q≠[]->∃k,Byk k/\k.length<=32/\p++q=Ni.nib k
end
section
open Tr
variable {K : Nat → Prop} {w : World} {g n c gt gp gK gU : Nat} {a : Option Addr} {k : List Int} {pt : Pa.Pt} {kn : Pa.Kn} {us : List (List Int)}
def GV(t:Tr)(k:τ):τ:=if k.length<=32 then Tr.get t (Ni.nib k)else[]
def GIs(t:Tr)(k:τ)(b:Bool)(z:Int):Prop:=b=(if k.length<=32 then decide (Tr.get t (Ni.nib k)≠[])else false)/\z=if k.length<=32 then 0 else 70
def GAll(t:Tr)(k:τ)(w:Γ):Δ->Γ->Prop:=λu w'=>(∃a2 n2 c2 b2 z2,u=θ #[σ a2 n2 c2,β b2,ι z2]/\GIs t k b2 z2/\Sk Pa.An w' a2 n2 c2 (GV t k))/\Bl w w'
theorem XI{t:Tr}(h:Tri K w g t){K1:Θ}(d:Sk K1 w a n c k)(j:∀b,w.heap.size<=b->K b):
 κ 41 #[π g,σ a n c] w λu w'=>GAll t k w u w':=by
 have q:=d.len;by_cases p:n<=32
 ·refine(YK h d p j).mono ?_;rintro e w'⟨u,rfl,⟨i,m,c2,b,rfl,l,o⟩,f⟩;refine⟨_,rfl,⟨i,m,c2,b,0,rfl,⟨by rw[Ai (by omega)];exact l,by rw[Ai (by omega)]⟩,?_⟩,f⟩;unfold GV;rw[Ai (by omega)];exact o.any
 ·refine(Yp d (by omega)).mono ?_;rintro e w'⟨u,rfl,rfl,f⟩;refine⟨_,rfl,⟨none,0,0,false,70,rfl,⟨by rw[Ae (by omega)],by rw[Ae (by omega)]⟩,?_⟩,f⟩;unfold GV;rw[Ae (by omega)];exact Sk.nil _ _
theorem Ix(t:Tr):(rootP t).length=32:=by
 unfold rootP;split<;>exact Di.dref_len _
theorem UR(t:Tr):isB (rootP t):=by
 unfold rootP;split<;>exact GS _
theorem UT:∀(t:Tr){B:Nat},Tr.Ok B t->B<=64->Vb t->(encT t).length<=65540/\∀b∈nmd t,b.length<=65540:=by
 intro t
 induction t with
 |no=>intro B h;exact h.elim
 |leaf p v=>intro B h f d;exact⟨by rw[DU h.ne];exact(Rv _ h f d).isB.2.2,λb a=>by cases a⟩
 |ext p c g=>
  intro B h f d;refine⟨by rw[DU h.ne];exact(Rv _ h f d).isB.2.2,λb a=>?_⟩;obtain⟨m,l⟩:=g h.2.2.2.2 (by omega) d.2;rcases AP.1 a with a|a
  ·exact l b a
  ·unfold nm1 at a;split at a
   ·cases a
   ·rw[Bz.1 a];exact m
 |br k x g=>
  intro B h f d;refine⟨by rw[DU h.ne];exact(Rv _ h f d).isB.2.2,λb a=>?_⟩;obtain⟨i,j,a⟩:=Cv.1 a;have j:=Da.1 j;rcases h.1 i with e|⟨m,l,n⟩
  ·rw[e]at a;cases a
  ·rw[Ae (λq=>n.ne (isNo_iff.1 q))]at a;obtain⟨r,o⟩:=g i n (by omega) (d.2 i j);rcases AP.1 a with a|a
   ·exact o b a
   ·unfold nm1 at a;split at a
    ·cases a
    ·rw[Bz.1 a];exact r
theorem UU{t:Tr}(h:Tri K w g t):∀b∈nodesP t,b.length<=65540:=by
 intro b a;unfold nodesP at a;split at a
 ·cases a
 ·rename_i c;have:=(Hg (nmd t++[encT t]) [] (by simp[SrtB])).2 b;obtain⟨⟨v,_,j⟩,d⟩:=h;obtain⟨i,f⟩:=UT t (d.resolve_left (λe=>c (isNo_iff.2 e))) (Ab _) j.vb;rcases(this.1 a)with q|q
  ·cases q
  ·rcases AP.1 q with q|q
   ·exact f b q
   ·rw[Bz.1 q];exact i
theorem XbD{K':Θ}{w0:Γ}{t:Tr}(h:Bt K w a n (nodesP t))(m:Tri K' w0 g t):Pa.NsA w a n c (nodesP t):=
 ⟨h.len.symm,λj b f=>by
  have i:j<n:=by rw[<-h.len];exact(Ar.1 f).1
  obtain⟨g,off,a',n',c',k,l,d⟩:=h.row j i;have e:(nodesP t).getD j []=b:=by rw[List.getD,f];rfl
  rw[e]at d;exact⟨g,off,a',n',c',k,l,d.any,by have:=d.len;have:=UU m b (AL f);omega⟩⟩
theorem Xbi{gr:Nat}{t:Tr}(h:Rec K w gr gt gp gK gU t pt kn us)(i:Sk Pa.An w a n c k){b:Ω}{m d:Nat}{x:τ}(g:Sk Pa.An w b m d x)(s:∀b,w.heap.size<=b->K b):
 κ 23 #[π gr,σ a n c,σ b m d] w λu w'=>(λu w'=>u=ι (putE k x)/\Rec K w' gr gt gp gK gU (putT t k x) (Pa.putQ kn pt k x).1 kn (Pa.putU kn pt k x us)/\Ts (RA gt gp gU) w w') u w':=by
 have B:=Bl.refl w;have f:=h.r;refine Ck func23 21<|Hl 10 f 1 46 (π gp)<|Hc 2 (R:=λu w'=>Pa.PAt w' gp gK gU (Pa.putQ kn pt k x).1 kn (Pa.putU kn pt k x us)/\u=ι (Pa.putQ kn pt k x).2/\Pa.T2 gp gU w w') ((Pa.pput_any h.p i g)) ?_;rintro _ v⟨j,rfl,e⟩;have q:=h.tri e;replace f:=h.row e;have l:=i.nt e.n;have y:=e.size;have r:=g.nt e.n;refine Hl 7 f 0 25 (π gt)<|Hc 2 (R:=λu w'=>u=ι (putE k x)/\Tri K w' gt (putT t k x)/\Touch gt v w') ((Ju q l r (λb z=>s b (by omega)))) ?_;rintro _ A⟨rfl,o,p⟩;exact Hr 4 (ι (putE k x)) ⟨_,rfl,rfl,h.fin e j o p⟩
theorem Xbj{gr:Nat}{t:Tr}(h:Rec K w gr gt gp gK gU t pt kn us)(f:Sk Pa.An w a n c k)(o:∀b,w.heap.size<=b->K b):
 κ 24 #[π gr,σ a n c] w λu w'=>(λu w'=>u=θ #[β (if k.length<=32 then decide (Tr.get t (Ni.nib k)≠[])else false),ι (if k.length<=32 then 0 else 70)]/\Rec K w' gr gt gp gK gU (delT t k) (Pa.delQ kn pt k).1 kn (Pa.delU kn pt k us)/\Ts (RA gt gp gU) w w') u w':=by
 have v:=Bl.refl w;have e:=h.r;refine Ck func24 20<|Hl 11 e 1 46 (π gp)<|Hc 1 (R:=λu w'=>Pa.PAt w' gp gK gU (Pa.delQ kn pt k).1 kn (Pa.delU kn pt k us)/\u=θ #[β (Pa.delQ kn pt k).2.1,ι (Pa.delQ kn pt k).2.2]/\Pa.T2 gp gU w w') ((Pa.pdel_any h.p f)) ?_;rintro _ p⟨g,rfl,d⟩;have m:=h.tri d;replace e:=h.row d;have i:=f.nt d.n;have q:=d.size;refine Hl 7 e 0 25 (π gt)<|Hc 1 (R:=λu w'=>u=θ #[β (if k.length<=32 then decide (Tr.get t (Ni.nib k)≠[])else false),ι (if k.length<=32 then 0 else 70)]/\Tri K w' gt (delT t k)/\Touch gt p w') ((TP m i (λb r=>o b (by omega)))) ?_;rintro _ s⟨rfl,j,l⟩;refine Hp 0 (β (if k.length<=32 then decide (Tr.get t (Ni.nib k)≠[])else false))<|Hp 1 (β (if k.length<=32 then decide (Tr.get t (Ni.nib k)≠[])else false)) ?_;exact Hr 4 (θ #[β (if k.length<=32 then decide (Tr.get t (Ni.nib k)≠[])else false),ι (if k.length<=32 then 0 else 70)]) ⟨_,rfl,rfl,h.fin d g j l⟩
theorem XJ{gr:Nat}{t:Tr}(h:Rec K w gr gt gp gK gU t pt kn us)(p:Sk Pa.An w a n c k)(z:∀b,w.heap.size<=b->K b):
 κ 16 #[π gr,σ a n c] w λu w'=>(λu w'=>(∃g i c2 d f,u=θ #[σ g i c2,β d,ι f]/\GIs t k d f/\Sk Pa.An w' g i c2 (GV t k))/\Rec K w' gr gt gp gK gU t pt kn (Pa.getU kn pt k us)/\Ts (RA gt gp gU) w w') u w':=by
 have G:=Bl.refl w;have j:=h.r;obtain⟨y,x⟩:∃b,decide (0<(Pa.getP kn pt k).1.length)=b:=⟨_,rfl⟩;refine Ck func16 22<|Hl 12 j 1 46 (π gp)<|Hc 1 (R:=λu w'=>Pa.PAt w' gp gK gU pt kn (Pa.getU kn pt k us)/\(∃a n c,u=θ #[σ a n c,β y,ι (Pa.getP kn pt k).2]/\Sk Pa.An w' a n c (Pa.getP kn pt k).1/\n<=256)/\Pa.TU gU w w') ((by have:=Pa.get_any h.p p;unfold Pa.RGet at this;rw[x]at this;exact this)) ?_;rintro _ q⟨r,⟨D,F,c1,rfl,_⟩,s⟩;have e:Pa.T2 gp gU w q:=Pa.T2.of s;have m:=h.tri e;replace j:=h.row e;have v:=p.nt e.n;have B:=e.size;refine Hl 7 j 0 25 (π gt)<|Hc 1 (R:=GAll t k q) ((XI m v (λb C=>z b (by omega)))) ?_;rintro _ E⟨⟨g,i,c2,d,f,rfl,o⟩,l⟩;have A:=e.size;refine Hp 1 (β d)<|Hp 2 (β d) ?_;exact Hr 4 (θ #[σ g i c2,β d,ι f]) ⟨_,rfl,⟨g,i,c2,d,f,rfl,o.1,o.2⟩,h.fin e r (m.go l) (Touch.of_below l)⟩
theorem Qe{gr:Nat}{t:Tr}(h:Rec K w gr gt gp gK gU t pt kn us)(c:∀d∈us,∃t,Pa.findK d kn=some t)(e:us.length<=5864062014800):
 κ 10 #[π gr] w λu w'=>Pa.RUs w (us.map (Pa.usB kn)) u w':=by
 have k:=Bl.refl w;have i:=h.r;refine Ck func10 8<|Hl 10 i 1 46 (π gp)<|Hc 0 (R:=Pa.RUs w (us.map (Pa.usB kn))) ((Pa.used_any h.p c e)) ?_;rintro _ l⟨⟨a,nU,b,j,rfl,g⟩,f⟩;exact Hr 4 (σ a nU b) ⟨_,rfl,⟨a,nU,b,j,rfl,g⟩,f⟩
theorem XK{t:Tr}(b:Tri K w g t)(l:(nmd t).length+1<=7600000000000):
 κ 7 #[π g] w λu w'=>(λu w'=>(∃gr gt gp gK gU,u=π gr/\Rec K w' gr gt gp gK gU t (Pa.topP (rootP t)) (Pa.knP (nodesP t) []) []/\w.heap.size<=gr/\w.heap.size<=gt/\w.heap.size<=gp/\w.heap.size<=gK/\w.heap.size<=gU)/\Bl w w') u w':=by
 have a:=Bl.refl w;refine Ck func7 12<|Hc 8 (R:=λu w'=>(∃g',u=π g'/\w.heap.size<=g'/\Tri K w' g' t)/\Bl w w') ((QD b)) ?_;rintro _ v⟨⟨gt,rfl,z,d⟩,j⟩;replace a:=a.go j;have y:=a.size;replace b:=b.go j;refine Hc 1 (R:=λu w'=>u=γ (B8 (rootP t))/\Bl v w') ((Gv b l)) ?_;rintro _ s⟨rfl,e⟩;replace b:=b.go e;refine Hc 1 (R:=RNo s t) ((U6 b l)) ?_;rintro _ m⟨⟨x,q,r,rfl,o,_,G⟩,f⟩;replace b:=b.go f;have n:Pa.NsA m x q r (nodesP t):=XbD o b;refine Hc 0 (R:=Pa.RNw m (Pa.topP (rootP t)) (Pa.knP (nodesP t) []) []) ((Pa.new_any (Ix t) (UR t) n (by omega))) ?_;rintro _ H⟨⟨gp,gK,gU,rfl,h,C,D,A⟩,i⟩;replace a:=(a.go e).go f;have B:=a.size;replace a:=a.go i;have E:=a.size;refine Hn 1 (#[π gt,π gp]) 48 ?_;intro I k c p;have F:=c.hg;replace d:=(((d.go e).go f).go i).go c.below;replace a:=a.go c.below;replace h:=h.go c.below;exact Hr 4 (π k) ⟨_,rfl,⟨k,gt,gp,gK,gU,rfl,⟨p,d,h⟩,by omega,by omega,by omega,by omega,by omega⟩,a⟩
end
end Go.Proofs.YtkdlocloepbmcaaGreat
