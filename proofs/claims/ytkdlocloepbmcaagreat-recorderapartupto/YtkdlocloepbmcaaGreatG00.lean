/- A walk by environments: a frame is known by the slots that were written, no more. -/
import Derived.Test.YtkdlocloepbmcaaGreatAK
import Derived.Deep.LoopGhost
import Derived.Deep.RegionHeld3
import Derived.RangeFuncCalls
import Derived.TacticsIn
import Derived.RangeFuncLeaves
import Derived.KernelRfl
import Derived.Test.YtkdlocloepbmcaaGreatRows
import Derived.WalkKit
import Derived.WalkSpells
import Derived.WalkLawsBesides
import Derived.BigQuiet
import Derived.Deep.QuietTactic
import Derived.Handy
import Derived.Deep.DrawnRows
import Derived.Laws.CopyOwn
import Derived.Laws.AppendOwnNone
import Derived.Deep.RegionLaw
import Derived.Deep.DeepCutAuto
import Derived.RangeFuncNested
import Derived.Maps.RangeRun
import Derived.Deep.WholeRow
import Derived.OrdersIn
import Derived.Lib.Bytes
import Derived.Deep.OwnRows
set_option linter.unusedVariables false
set_option linter.unusedSimpArgs false
set_option maxRecDepth 100000
open Go.Proofs.Tryz Go.RowKit
namespace Go.Proofs.YtkdlocloepbmcaaGreat
section
variable {P : Program} {args : Array Value} {w : World} {F : Fence} {n : Nat}
abbrev Env:=List (Nat×Δ)
def lkF:Env->(Nat->Δ)->Nat->Δ
 |[],fb,t=>fb t
 |(d,v)::r,fb,t=>bif Nat.beq d t then v else lkF r fb t
def ev(env:Env)(fb:Nat->Δ):Φ
 | .tmp t=>lkF env fb t
 | .const v=>v
 | .global g=>π g
 | .func f=> .func (.func f) #[] #[]
structure Frm(ds:List Deferred)(n:Nat)(env:Env)(a:Act):Prop where
 df:a.defers=ds
 sz:a.tmps.size=n
 get:∀t,a.tmps.getD t undef=lkF env (λt=>a.tmps.getD t undef) t
def SubE(env:Env):Env->Prop
 |[]=>True
 |p::r=>(∀fb,lkF env fb p.1=p.2)/\SubE env r
def yF(ops:Array Oper)(env:Env)(fb:Nat->Δ)(j:Nat):Option Bool:=
 match(ops[j]?).bind (·.dst)with
 |some d=>match lkF env fb d with
  |β b=>some b
  |_=>none
 |none=>none
def noDefer(o:Oper):Bool:=match o.op with| .defer _=>false|_=>true
theorem Ft{o:Oper}(h:noDefer o=true):∀c,o.op≠ .defer c:=by
 intro c e;unfold noDefer at h;rw[e]at h;cases h
def chk(n:Nat)(ops:Array Oper)(env:Env)(fb:Nat->Δ)(o:Oper)(d:Nat):Bool:=
 (o.dst==some d)&&Nat.blt d n&&Region.wanted o (yF ops env fb)&&noDefer o
def chk0(ops:Array Oper)(env:Env)(fb:Nat->Δ)(o:Oper):Bool:=
 (o.dst==none)&&Region.wanted o (yF ops env fb)&&noDefer o
def off(n:Nat)(ops:Array Oper)(env:Env)(fb:Nat->Δ)(o:Oper)(d:Nat):Bool:=
 (o.dst==some d)&&Nat.blt d n&&!Region.wanted o (yF ops env fb)
def fz(r:Option Nat):Fence:={Fence.wide with round:=r}
theorem callsIn_fz{r:Option Nat}{m:Nat}{f:FuncId}{R:Ending->Γ->Prop}:CallsIn (fz r) m P f args w R↔Calls P f args w R:=callsIn_wide (n:=m)
theorem CallsIn.mono'{f:FuncId}{R a:Ending->Γ->Prop}(h:CallsIn F n P f args w R)(d:∀e w',R e w'->a e w'):CallsIn F n P f args w a:=
 ⟨h.1,λcs b=>let⟨e,w',c,q,s⟩:=h.2 cs b;⟨e,w',c,d _ _ q,s⟩⟩
theorem K7{Q:Exit->Act->Γ->Prop}{a:Act}{c:Code}(I:Nat->Act->Γ->Prop)(f:Nat)(m:I f a w)
 (h:∀k a w,I k a w->c.wpIn F n P (Exit.then (λa' w'=>∃g,g<k/\I g a' w') Q) a w):(Code.loop c).wpIn F n P Q a w:=by
 refine wpIn_loop (λa w=>∃n,I n a w) (λa w=>leastOf (λn=>I n a w)) ⟨f,m⟩ ?_;intro a w j;refine wpIn_mono (h _ a w (leastOf_spec j).1) ?_;intro e a' w' b;cases e with
 |normal=>
  obtain⟨n',i,d⟩:=b;exact show(∃n,I n a' w')/\leastOf (λn=>I n a' w')<leastOf (λn=>I n a w)from⟨⟨n',d⟩,Nat.lt_of_le_of_lt ((leastOf_spec ⟨n',d⟩).2 n' d) i⟩
 |exit o=>exact b
 |goto l=>exact b
 |ret=>exact b
 |panic p=>exact b
 |outgrown=>exact b
section
variable {r : Option Nat} {m : Nat} {P : Program} {ds : List Deferred} {n : Nat} {Q : Exit → Act → World → Prop} {env : Env} {w : World}
def NW(ds:List Deferred)(n:Nat)(Q:Exit->Act->Γ->Prop)(e:Exit)(env:Env)(w:Γ):Prop:=∀a,Frm ds n env a->Q e a w
def CW(r:Option Nat)(m:Nat)(P:Program)(ds:List Deferred)(n:Nat)(Q:Exit->Act->Γ->Prop)(c:Code)(env:Env)(w:Γ):Prop:=∀a,Frm ds n env a->c.wpIn (fz r) m P Q a w
def RW(r:Option Nat)(m:Nat)(P:Program)(ds:List Deferred)(n:Nat)(Q:Exit->Act->Γ->Prop)(ops:Array Oper)(l:List Oper)(env:Env)(w:Γ):Prop:=∀a,Frm ds n env a->wpListIn (fz r) m P ops Q l a w
def DW(P:Program)(ds:List Deferred)(n:Nat)(Q:Exit->Act->Γ->Prop)(ops:Array Oper)(S:Γ->Prop)(fuel:Nat)(listed:Array Bool)(env:Env)(w:Γ):Prop:=∀a,Frm ds n env a->wpAnyH P .any ops Q S fuel listed a w
def AR(P:Program)(ds:List Deferred)(n:Nat)(Q:Exit->Act->Γ->Prop)(ops:Array Oper)(S:Γ->Prop)(fuel:Nat)(listed:Array Bool)(env:Env)(w:Γ)(rs:List Nat):Prop:=∀a,Frm ds n env a->AllReadyH P .any ops Q S fuel listed a w rs
def argE:Nat->List Δ->Env
 |_,[]=>[]
 |k,v::r=>(k,v)::argE (k+1) r
theorem XZ(args:Ξ)(k:Nat):Frm [] (args++Array.replicate k undef).size (argE 0 args.toList) {tmps:=args++Array.replicate k undef,defers:=[]}:=by
 refine⟨rfl,rfl,λt=>?_⟩;have key:∀(l:List Δ)(i:Nat)(fb:Nat->Δ),(∀j,l[j]?.isSome->fb (i+j)=(l[j]?).getD undef)->∀t,fb t=lkF (argE i l) fb t:=by
  intro l
  induction l with
  |nil=>intro i fb _ t;rfl
  |cons v r d=>
   intro i fb h t;simp only[argE,lkF];cases c:Nat.beq i t with
   |true=>
    have:=Eo c;subst this;simpa using h 0 (by simp)
   |false=>
    simp only[cond_false];refine d (i+1) fb (λj a=>?_) t;have:=h (j+1) (by simpa using a);rw[show i+1+j=i+(j+1)from by omega];simpa using this
 refine key args.toList 0 (λt=>(args++Array.replicate k undef).getD t undef) (λj a=>?_) t;have b:j<args.size:=by
  rw[Option.isSome_iff_exists]at a;obtain⟨v,e⟩:=a;simpa using(Ar.1 e).1
 simp only[A6,Dr,CA b,BB]
theorem Qi{f:FuncId}{fn:Func}{c:Code}{args:Ξ}{R:Ending->Γ->Prop}(a:P.funcs[f]?=some fn)(d:fn.body=some c)(n:Nat)(b:args.size+(fn.ntmps-args.size)=n)
 (h:CW none m P [] n (bodyPost P fn R) c (argE 0 args.toList) w):CallsIn Fence.wide m P f args w R:=by
 refine callsIn_of_wp a d trivial<|h _ ?_;have:=XZ args (fn.ntmps-args.size);rw[show(args++Array.replicate (fn.ntmps-args.size) undef).size=n from by simp[b]]at this;exact this
theorem UY{f:FuncId}{fn:Func}{c:Code}{args:Ξ}{R:Ending->Γ->Prop}(a:P.funcs[f]?=some fn)(d:fn.body=some c)(n:Nat)(b:args.size+(fn.ntmps-args.size)=n)
 (h:CW none 20 P [] n (bodyPost P fn R) c (argE 0 args.toList) w):Calls P f args w R:=callsIn_wide.1 (Qi a d n b h)
def resF(g:Nat->Δ)(rs:Array ResultVar):Sem Δ:=do
 let vs <-rs.mapM λ
  | .tmp t=>pure (g t)
  | .cell a t=>do loadVar t (<-asAddr (g a))
 pure (if h:vs.size=1 then vs[0]else θ vs)
theorem IQ(fn:Func)(a:Ξ):results fn a=resF (λt=>a.getD t undef) fn.results:=rfl
end
section
variable {r : Option Nat} {m : Nat} {P : Program} {ds : List Deferred} {n : Nat} {Q : Exit → Act → World → Prop} {env : Env} {w w' : World} {ops : Array Oper} {l : List Oper} {o : Oper}
end
section
variable {r : Option Nat} {m : Nat} {P : Program} {ds : List Deferred} {n : Nat} {Q : Exit → Act → World → Prop} {env : Env} {w w' : World} {ops : Array Oper} {o : Oper} {S : World → Prop} {fuel : Nat} {listed : Array Bool} {rs : List Nat}
def tkOk(ops:Array Oper)(listed:Array Bool)(i:Nat):Bool:=Region.noSelect ops&&Region.free .any ops listed i&&(Region.ready .any ops listed).contains i
end
end
section
variable {g base : Nat} {b w0 w w' : World} {a : Option Addr}
theorem Aa{p:Prop}(h:p):Hid p:=h
theorem lt_of_get{α:Type}{xs:Array α}{i:Nat}{x:α}(h:xs[i]?=some x):i<xs.size:=(Cu.1 h).1
theorem Below.row{W w1:Γ}(a:Λ W w1){o:Obj}(h:W.heap[g]?=some o):w1.heap[g]?=some o:=(a.block g (lt_of_get h)).trans h
structure Touch(g:Nat)(w w':Γ):Prop where
 os:w'.os=w.os
 tape:w'.tape=w.tape
 output:w'.output=w.output
 size:w.heap.size<=w'.heap.size
 block:∀k,k<w.heap.size->k≠g->w'.heap[k]?=w.heap[k]?
theorem Touch.refl(g:Nat)(w:Γ):Touch g w w:=⟨rfl,rfl,rfl,Ab _,λ_ _ _=>rfl⟩
theorem Touch.trans{a c:Γ}(h:Touch g a b)(k:Touch g b c):Touch g a c:=
 ⟨k.os.trans h.os,k.tape.trans h.tape,k.output.trans h.output,Au h.size k.size,λi e d=>(k.block i (BQ e h.size) d).trans (h.block i e d)⟩
theorem Touch.of_below{a:Γ}(h:Λ a b):Touch g a b:=⟨h.os,h.tape,h.output,h.size,λi c _=>h.block i c⟩
theorem Touch.setCell(g:Nat)(w:Γ)(o:Nat)(v:Δ):Touch g w (w.setCell ⟨g,o,none⟩ v):=⟨rfl,rfl,rfl,by simp,λk _ a=>AA _ _ _ _ a⟩
theorem Touch.setRow(g:Nat)(w:Γ)(C:Ξ):Touch g w (w.setRow g C):=⟨rfl,rfl,rfl,by simp,λk _ a=>Bc _ _ _ _ a⟩
theorem Touch.drew(g:Nat)(w:Γ):Touch g w w.drew:=⟨rfl,rfl,rfl,Ab _,λ_ _ _=>rfl⟩
theorem Touch.below{N:Nat}(h:Below N w0 w)(t:Touch g w w')(c:N<=g)(a:N<=w.heap.size):Below N w0 w':=
 h.trans ⟨t.os,t.tape,t.output,t.size,λk b=>t.block k (by omega) (by omega)⟩
theorem B8_one2(bs:τ):∀v∈bs.map (Value.int .u8),v.oneCell'=true:=by
 intro v a;obtain⟨x,_,rfl⟩:=BC.1 a;rfl
def OwnB(w:Γ)(base:Nat)(v:Δ)(bs:τ):Prop:=w.ownsRow base 5 1 v bs.length (bs.map (Value.int .u8))
theorem info5:∃i,prog.info? 5=some i/\i.zero=some (η 0)/\i.size=1/\i.bytes=1:=by
 have h:(prog.info? 5).map (λi=>(i.zero,i.size,i.bytes))=some (some (η 0),1,1):=by kernel_rfl
 cases a:prog.info? 5 with
 |none=>rw[a]at h;simp at h
 |some i=>rw[a]at h;simp at h;exact⟨i,rfl,h.1,h.2.1,h.2.2⟩
theorem app_own{w:Γ}{ops:Array Oper}{rest:List Oper}{o:Oper}{a:Act}{Q:Exit->Act->Γ->Prop}(g:o.guard=none)(s x:Operand)
 (n:o.op= .call {callee:= .builtin .append,args:=#[s,x],argTypes:=#[32,32]}) (base:Nat) (v:Δ) (bs:τ) (r:a.eval s=v) (f:OwnB w base v bs)
 (ad:Addr) (m c:Nat) (news:τ) (y:a.eval x=σ (some ad) m c) (b:news.length=m) (d:∀j u,(news.map (Value.int .u8))[j]?=some u->w.cell? (ad.add j)=some u)
 (B:bs.length+m<=140737488355328) (e:base<=w.heap.size)
 (h:∀v' w',OwnB w' base v' (bs++news)->w.grownBy w' v.ownBlock->(v'=ε↔v=ε/\m=0)->wpList prog ops Q rest (a.put o.dst v') w'):wpList prog ops Q (o::rest) a w:=by
 obtain⟨i,t,z,l,k⟩:=info5;refine wpList_append_own w g s x 32 n base 5 i (η 0) 1 1 υ32 t z l k rfl (by decide) v bs.length (bs.map (Value.int .u8)) r f ad m c (news.map (Value.int .u8)) y (by simpa using b) d (B8_one2 _) (by unfold maxLen;omega) (by omega) e ?_;intro v' w' A p q;refine h v' w' ?_ p q;unfold OwnB;rw[Af,b,Bp];exact A
theorem app_none{w:Γ}{ops:Array Oper}{rest:List Oper}{o:Oper}{a:Act}{Q:Exit->Act->Γ->Prop}(c:o.guard=none)(s x:Operand)
 (d:o.op= .call {callee:= .builtin .append,args:=#[s,x],argTypes:=#[32,32]}) (base:Nat) (v:Δ) (bs:τ) (e:a.eval s=v) (b:OwnB w base v bs)
 (g:a.eval x=ε) (h:wpList prog ops Q rest (a.put o.dst v) w):wpList prog ops Q (o::rest) a w:=by
 obtain⟨i,f,_,_,_⟩:=info5;exact wpList_append_own_none c s x 32 d base 5 i 1 υ32 f v bs.length _ e b g h
def InB(w:Γ)(a:Ω)(len cap:Nat)(bs:τ):Prop:=
 (a=none/\len=0/\cap=0/\bs=[])∨∃ad,a=some ad/\bs.length=len/\∀j u,(bs.map (Value.int .u8))[j]?=some u->w.cell? (ad.add j)=some u
theorem OwnB.slice{v:Δ}{bs:τ}(h:OwnB w base v bs)(m:0<bs.length):
 ∃g cap,v=σ (ζ g 0) bs.length cap/\base<=g/\g<w.heap.size/\bs.length<=cap/\cap<=maxLen/\∀j,j<bs.length->w.cell? ⟨g,j,none⟩=some (η (bs.getD j 0)):=by
 obtain⟨_,a⟩:=h;rcases a with⟨_,a⟩|⟨g,cap,cur,d,i,b,l,c,n,k⟩
 ·omega
 ·refine⟨g,cap,d,i,lt_of_get b,l,c,?_⟩;intro j f;rw[Aj w g j _ _ _ b];have e:(cur.toList.take (bs.length*1))[j]?=(bs.map (Value.int .u8))[j]?:=by rw[k]
  rw[AT (by omega)]at e;simp at e;rw[e];simp[Ad f]
theorem OwnB.alloc{v:Δ}{bs:τ}(h:OwnB w base v bs)(o:Obj):OwnB (w.alloc o) base v bs:=World.ownsRow.alloc h o
theorem OwnB.new(w:Γ):OwnB (w.alloc (.cells #[] 5)) w.heap.size (σ (some ⟨w.heap.size,0,none⟩) 0 0) []:=
 ⟨rfl, .inr ⟨w.heap.size,0,#[],rfl,Ab _,Ak _ _,Ab _,by unfold maxLen;omega,rfl,rfl⟩⟩
theorem OwnB.lt{v:Δ}{bs:τ}(h:OwnB w base v bs):∀k,v.ownBlock=some k->base<=k:=λk a=>(World.ownsRow.lt h k a).1
theorem one_new(w:Γ)(x:Int):∀j u,([x].map (Value.int .u8))[j]?=some u->(w.alloc (.cells #[η x] 5)).cell? ((⟨w.heap.size,0,none⟩:Addr).add j)=some u:=by
 intro j u h;cases j with
 |zero=>
  simp at h;subst h;rw[show(⟨w.heap.size,0,none⟩:Addr).add 0=⟨w.heap.size,0,none⟩from rfl,Aj _ _ _ _ _ _ (Ak w _)];rfl
 |succ j=>simp at h
theorem InB.alloc{len cap:Nat}{bs:τ}(h:InB w a len cap bs)(o:Obj):InB (w.alloc o) a len cap bs:=by
 rcases h with h|⟨ad,d,e,c⟩
 ·exact .inl h
 ·exact .inr ⟨ad,d,e,λj u b=>(Av (w:=w) (Ax w _ _ (Al (c j u b)))).trans (c j u b)⟩
def In0(w:Γ)(a:Ω)(len cap:Nat)(bs:τ):Prop:=
 (len=0/\bs=[])∨∃gb off,a=some ⟨gb,off,none⟩/\bs.length=len/\0<len/\len<=cap/\cap<=maxLen/\∀j,j<bs.length->w.cell? ⟨gb,off+j,none⟩=some (η (bs.getD j 0))
theorem In0.mono{len cap:Nat}{bs:τ}(h:In0 w a len cap bs)(k:Λ w w'):In0 w' a len cap bs:=by
 rcases h with h|⟨gb,off,f,d,i,e,g,c⟩
 ·exact .inl h
 ·exact .inr ⟨gb,off,f,d,i,e,g,λj b=>(k.cell (p:=⟨gb,off+j,none⟩) (Al (c j b))).trans (c j b)⟩
theorem In0.drew{len cap:Nat}{bs:τ}(h:In0 w a len cap bs):In0 w.drew a len cap bs:=by
 rcases h with h|⟨gb,off,b,f,e,g,d,c⟩
 ·exact .inl h
 ·exact .inr ⟨gb,off,b,f,e,g,d,c⟩
theorem BO(g o j:Nat):(⟨g,o,none⟩:Addr).add j=⟨g,o+j,none⟩:=by unfold Addr.add;split<;>simp_all
theorem In0.inB{len cap:Nat}{bs:τ}(h:In0 w a len cap bs)(f:a=none->len=0/\cap=0):InB w a len cap bs:=by
 rcases h with⟨d,b⟩|⟨gb,off,d,b,l,i,k,g⟩
 ·cases a with
  |none=>exact .inl ⟨rfl,d,(f rfl).2,b⟩
  |some ad=>exact .inr ⟨ad,rfl,by rw[b,d];rfl,λj u c=>by rw[b]at c;simp at c⟩
 ·refine .inr ⟨_,d,b,λj u c=>?_⟩;have e:j<bs.length:=by have:=(Ar.1 c).1;simpa using this
  rw[BO,g j e,<-c];simp[Ad e]
theorem OwnB.in0{v:Δ}{bs:τ}(h:OwnB w base v bs):∃a cap,v=σ a bs.length cap/\In0 w a bs.length cap bs/\(a=none->bs.length=0/\cap=0):=by
 by_cases f:0<bs.length
 ·obtain⟨g,cap,b,o,i,n,k,m⟩:=h.slice f;exact⟨_,cap,b, .inr ⟨g,0,rfl,rfl,f,n,k,λj l=>by rw[A6];exact m j l⟩,λd=>by cases d⟩
 ·have c:bs.length=0:=by omega
  have e:bs=[]:=Aw c;obtain⟨_,i⟩:=h;rcases i with⟨b,_⟩|⟨g,cap,cur,b,_⟩
  ·exact⟨none,0,by rw[b,c], .inl ⟨c,e⟩,λ_=>⟨c,rfl⟩⟩
  ·exact⟨some ⟨g,0,none⟩,cap,b, .inl ⟨c,e⟩,λd=>by cases d⟩
theorem FJ{len cap:Nat}{bs:τ}(h:In0 w a len cap bs):(convert 32 9 (σ a len cap)).run prog w= .ok (.string (strOfNums bs)) w:=by
 rcases h with⟨rfl,rfl⟩|⟨gb,off,rfl,c,g,e,f,d⟩
 ·cases a with
  |none=>exact run_convert_bytes_nil w 32 5 υ32 υ5 0 cap 9 υ9
  |some ad=>
   rw[run_convert_bytes_string w 32 9 5 _ 0 cap υ32 υ5 υ9,run_bytesToString w ad 0 cap [] (by have:=run_loadCells_list (P:=prog) w ad [] (λj v b=>by simp at b);simpa using this)];rfl
 ·exact run_convert_bytes_arg w 32 5 υ32 υ5 gb off len cap bs c (λi k=>d i (by omega)) 9 υ9
theorem wpl_copy{w:Γ}{ops:Array Oper}{rest:List Oper}{o:Oper}{a:Act}{Q:Exit->Act->Γ->Prop}(b:o.guard=none)(d x:Operand)
 (e:o.op= .call {callee:= .builtin .copy,args:=#[d,x],argTypes:=#[32,32]}) (v u:Δ) (hd:a.eval d=v) (f:a.eval x=u) {v':Δ} {w':Γ}
 (g:(Builtin.copy_ #[32,32] o.type #[v,u]).run prog w= .ok v' w') (h:wpList prog ops Q rest (a.put o.dst v') w'):wpList prog ops Q (o::rest) a w:=by
 refine wpList_plain b λK c=>?_;unfold Oper.wp;simp[execOp,e,resolve,invoke,builtin,hd,f,g,Result.andThen];exact c _ _ h
theorem DA{w:Γ}{ops:Array Oper}{rest:List Oper}{o:Oper}{a:Act}{Q:Exit->Act->Γ->Prop}(f:o.guard=none)(s x:Operand)
 (g:o.op= .call {callee:= .builtin .append,args:=#[s,x],argTypes:=#[32,32]}) (base:Nat) (v:Δ) (bs:τ) (k:a.eval s=v) (b:OwnB w base v bs)
 (ad:Ω) (m c:Nat) (news:τ) (l:a.eval x=σ ad m c) (p:In0 w ad m c news) (e:ad=none->m=0/\c=0) (i:news.length=m)
 (n:bs.length+m<=140737488355328) (d:base<=w.heap.size)
 (h:∀v' w',OwnB w' base v' (bs++news)->Below base w w'->wpList prog ops Q rest (a.put o.dst v') w'):wpList prog ops Q (o::rest) a w:=by
 cases ad with
 |none=>
  obtain⟨rfl,rfl⟩:=e rfl;have q:news=[]:=Aw i;subst q;refine app_none f s x g base v bs k b l ?_;exact h v w (by rw[A7];exact b) (Ac _ _)
 |some ad=>
  have z:=p.inB e;have A:∀j u,(news.map (Value.int .u8))[j]?=some u->w.cell? (ad.add j)=some u:=by
   rcases z with⟨h,_⟩|⟨B,y,_,r⟩
   ·cases h
   ·cases y;exact r
  refine app_own f s x g base v bs k b ad m c news l i A n d ?_;intro v' w' t g' _;exact h v' w' t ((Ac _ _).grown g' d b.lt)
structure Ag(w0:Γ)(a:Ω)(len cap:Nat)(bs:τ):Prop where
 i:In0 w0 a len cap bs
 nil:a=none->len=0/\cap=0
 l:bs.length=len
 b:∀x∈bs,0<=x/\x<256
theorem Ag.at{len cap:Nat}{bs:τ}(h:Ag w0 a len cap bs)(b:Λ w0 w):Ag w a len cap bs:=⟨h.i.mono b,h.nil,h.l,h.b⟩
theorem OwnB.ag{v:Δ}{bs:τ}(h:OwnB w base v bs)(c:∀x∈bs,0<=x/\x<256):∃a cap,v=σ a bs.length cap/\Ag w a bs.length cap bs:=by
 obtain⟨a,cap,d,b,e⟩:=h.in0;exact⟨a,cap,d,b,e,rfl,c⟩
theorem K8{xs ys:τ}(b:∀x∈xs,0<=x/\x<256)(c:∀x∈ys,0<=x/\x<256):∀x∈xs++ys,0<=x/\x<256:=by
 intro x a;rcases AP.1 a with a|a
 ·exact b x a
 ·exact c x a
theorem OwnB.far{v:Δ}{bs:τ}(h:OwnB w base v bs)(c:∀i,base<=i->i<w.heap.size->w'.heap[i]?=w.heap[i]?):OwnB w' base v bs:=by
 refine⟨h.1,?_⟩;rcases h.2 with e|⟨k,cap,cur,d,a,b,r⟩
 ·exact .inl e
 ·exact .inr ⟨k,cap,cur,d,a,(c k a (lt_of_get b)).trans b,r⟩
theorem OwnB.below{v:Δ}{bs:τ}(h:OwnB w base v bs)(b:Λ w w'):OwnB w' base v bs:=by
 refine⟨h.1,?_⟩;rcases h.2 with d|⟨k,cap,cur,c,a,e,r⟩
 ·exact .inl d
 ·exact .inr ⟨k,cap,cur,c,a,Below.row b e,r⟩
structure New(w w':Γ)(g:Nat)(cells:Ξ)(T:TypeId):Prop where
 hg:g=w.heap.size
 hw:w'=w.alloc (.cells cells T)
section
variable {w w' : World} {g : Nat} {cells : Array Value} {T : TypeId}
theorem New.below(h:New w w' g cells T):Λ w w':=by rw[h.hw];exact(Ac _ _).alloc (Ab _) _
theorem New.row(h:New w w' g cells T):w'.heap[g]?=some (.cells cells T (0,0)):=by rw[h.hw,h.hg];exact Ak _ _
theorem New.size(h:New w w' g cells T):w'.heap.size=g+1:=by rw[h.hw,h.hg];simp
end
structure Put(w w':Γ)(g:Nat)(cells:Ξ):Prop where
 hw:w'=w.setRow g cells
section
variable {w w' : World} {g : Nat} {cells : Array Value}
theorem Put.other(h:Put w w' g cells){k:Nat}(a:k≠g):w'.heap[k]?=w.heap[k]?:=by rw[h.hw];exact Bc _ _ _ _ a
theorem Put.row(h:Put w w' g cells){old:Ξ}{T:TypeId}{a:Nat×Nat}(b:w.heap[g]?=some (.cells old T a)):w'.heap[g]?=some (.cells cells T a):=by rw[h.hw];exact AC _ _ _ _ _ _ b
theorem Put.touch(h:Put w w' g cells):Touch g w w':=by rw[h.hw];exact Touch.setRow _ _ _
theorem Put.below(h:Put w w' g cells){N:Nat}{w0:Γ}(c:Below N w0 w)(b:N<=g)(a:N<=w.heap.size):Below N w0 w':=h.touch.below c b a
end
structure Set1(w w':Γ)(g o:Nat)(v:Δ):Prop where
 hw:w'=w.setCell ⟨g,o,none⟩ v
section
variable {w w' : World} {g o : Nat} {v : Value}
theorem Set1.touch(h:Set1 w w' g o v):Touch g w w':=by rw[h.hw];exact Touch.setCell _ _ _ _
theorem Set1.other(h:Set1 w w' g o v){k:Nat}(a:k≠g):w'.heap[k]?=w.heap[k]?:=by rw[h.hw];exact AA _ _ _ _ a
end
section
variable {r : Option Nat} {m : Nat} {P : Program} {ds : List Deferred} {n : Nat} {Q : Exit → Act → World → Prop} {env : Env} {w : World} {ops : Array Oper} {l : List Oper} {o : Oper} {S : World → Prop} {fuel : Nat} {listed : Array Bool} {rs : List Nat}
end
section
variable {P : Program} {ρ : Operand → Value} {w : World} {o : Oper}
theorem BW(T:TypeId)(x:Operand)(g:Nat)(cs:Ξ)(t:TypeId)(a:Nat×Nat)(d:TypeDesc)(e:o.op= .load T x)(h:ρ x=π g)(b:w.heap[g]?=some (.cells cs t a))(c:P.underlying T=some d)(hd:(match d with| .struct _| .array _ _=>true|_=>false)=true)(f:(P.info? T).map (·.size)=some cs.size):
 (execOp ρ o).run P w= .ok (.value (γ cs)) w:=by
 unfold execOp;simp only[e,h,Instr.loadAt,Instr.sureAddr,AO,AV,A4,CB w g t T cs a d b c hd f]
theorem Em(T:TypeId)(x:Operand)(b off:Nat)(cs:List Δ)(d:TypeDesc)(c:o.op= .load T x)(g:ρ x=ψ b off)(e:w.rangeAt b off cs)(a:P.underlying T=some d)(hd:d.isRow=true)(f:(P.info? T).map (·.size)=some cs.length):
 (execOp ρ o).run P w= .ok (.value (γ cs.toArray)) w:=by
 unfold execOp;simp only[c,g,Instr.loadAt,Instr.sureAddr,AO,AV,A4,run_loadVar_mid w b off T cs d e a hd f]
theorem AY(T:TypeId)(x:Operand)(p:Addr)(v:Δ)(d:TypeDesc)(b:o.op= .load T x)(f:ρ x= .pointer (some p))(c:w.cell? p=some v)(a:P.underlying T=some d)(hd:(match d with| .struct _| .array _ _=>true|_=>false)=false):
 (execOp ρ o).run P w= .ok (.value v) w:=by
 have e:(isAgg T).run P w= .ok false w:=by
  cases d<;>simp_all [isAgg,Bm a]
 unfold execOp;simp only[b,f,Instr.loadAt,Instr.sureAddr,AO,AV,A4,loadVar,e,BG,Dm];simp[c]
theorem AM(T:TypeId)(x y:Operand)(g:Nat)(cells old:Ξ)(t:TypeId)(d:o.op= .store T x y)(h:ρ x=π g)(f:ρ y=γ cells)(e:w.heap[g]?=some (.cells old t (0,0)))(c:(P.info? T).map (·.size)=some cells.size)(a:old.size=cells.size)(b:cells.all (·.oneCell')=true):
 (execOp ρ o).run P w= .ok .skip (w.setRow g cells):=by
 unfold execOp;rw[d];simp only[h,f,Instr.storeAt,Instr.sureAddr,AO,AV,A4,run_storeVar_row w g t T old cells e c a b]
theorem AW(T:TypeId)(x y:Operand)(g off j mm c sz:Nat)(E:TypeId)(d:o.op= .indexAddr T x y)(l:ρ x= .slice (some ⟨g,off,none⟩) mm c)(f:ρ y= .int .i64 j)(e:j<mm)(i:P.underlying T=some (.slice E))(b:(P.info? E).map (·.size)=some sz):
 (execOp ρ o).run P w= .ok (.value (.pointer (some ⟨g,off+j*sz,none⟩))) w:=by
 have k:(sizeOf E).run P w= .ok sz w:=by
  cases a:P.info? E with
  |none=>simp[a]at b
  |some z=>simp[a]at b;simp[sizeOf,typeInfo,a,b]
 unfold execOp;rw[d];simp only[l,f];have h:(if j*sz=0 then(⟨g,off,none⟩:Addr)else⟨g,off+j*sz,none⟩)=⟨g,off+j*sz,none⟩:=by split<;>simp_all
 simp[Instr.indexAt,asIntOf,Bm i,k,e,Result.andThen,Addr.add,h]
theorem Qj(T:TypeId)(x y:Operand)(r:TypeId)(p q:ByteArray){b:Bool}(d:o.op= .binOp .eql T x y r)(c:ρ x= .string p)(a:ρ y= .string q)(e:(p.toList==q.toList)=b):(execOp ρ o).run P w= .ok (.value (β b)) w:=by
 subst e;unfold execOp;rw[d];simp only[c,a];go_simp
theorem UZ(T:TypeId)(x y:Operand)(r:TypeId)(p q:Bool){b:Bool}(a:o.op= .binOp .eql T x y r)(e:ρ x=β p)(d:ρ y=β q)(c:(p==q)=b)(f:P.underlying T=some .bool:=by rfl):(execOp ρ o).run P w= .ok (.value (β b)) w:=by
 subst c;unfold execOp;rw[a];simp only[e,d];go_simp
theorem E1{v v':Δ}{w':Γ}(h:(execOp ρ o).run P w= .ok (.value v) w')(e:v=v'):(execOp ρ o).run P w= .ok (.value v') w':=by rw[<-e];exact h
end
theorem Cy{x:Int}(a:-9223372036854775808<=x)(b:x<=9223372036854775807):IntKind.i64.wrap x=x:=by unfold IntKind.wrap;simp[IntKind.bits,IntKind.signed];omega
end
section
open Go.ChangeMaps (setBlock)
section
variable {r : Option Nat} {m : Nat} {P : Program} {ds : List Deferred} {n : Nat} {Q : Exit → Act → World → Prop} {env : Env} {w w' : World} {ops : Array Oper} {l : List Oper} {o : Oper}
end
section
variable {P : Program} {ρ : Operand → Value} {w w' : World} {o : Oper}
theorem R9(x:Operand)(b:Bool)(p v:Δ)(c:o.op= .next x b)(a:ρ x=p)(d:(Instr.next p b o.type).run P w= .ok v w'):(execOp ρ o).run P w= .ok (.value v) w':=by
 unfold execOp;rw[c];simp only[a,AO,d,A4,AV]
theorem Va(x:Operand)(p v:Δ)(b:o.op= .entry x)(a:ρ x=p)(c:(Instr.entry p).run P w= .ok v w'):(execOp ρ o).run P w= .ok (.value v) w':=by
 unfold execOp;rw[b];simp only[a,AO,c,A4,AV]
end
theorem New.put{w w1 a:Γ}{g:Nat}{z cells:Ξ}{T:TypeId}(h:New w w1 g z T)(b:Put w1 a g cells):New w a g cells T:=⟨h.hg,by rw[b.hw,h.hw,h.hg];exact World.setRow_alloc_new _ _ _ _⟩
end
section
def DI(m:Nat)(P:Program)(ds:List Deferred)(n:Nat)(Q:Exit->Act->Γ->Prop)(ops:Array Oper)(fuel:Nat)(listed:Array Bool)(env:Env)(w:Γ):Prop:=∀a,Frm ds n env a->wpAnyIn Fence.wide m P .any ops Q fuel listed a w
def AI(m:Nat)(P:Program)(ds:List Deferred)(n:Nat)(Q:Exit->Act->Γ->Prop)(ops:Array Oper)(fuel:Nat)(listed:Array Bool)(env:Env)(w:Γ)(rs:List Nat):Prop:=∀a,Frm ds n env a->AllReadyIn Fence.wide m P .any ops Q fuel listed a w rs
section
variable {m : Nat} {P : Program} {ds : List Deferred} {n : Nat} {Q : Exit → Act → World → Prop} {env : Env} {w w' : World} {ops : Array Oper} {o : Oper} {fuel : Nat} {listed : Array Bool} {rs : List Nat}
end
end
namespace Ni
def isB(b:τ):Prop:=∀x∈b,0<=x/\x<256
theorem OC{x:Int}{r:τ}(h:isB (x::r)):(0<=x/\x<256)/\isB r:=⟨h x (by simp),λy a=>h y (by simp[a])⟩
def nib:τ->τ
 |[]=>[]
 |b::r=>b/16::b%16::nib r
theorem nib_len:∀k:τ,(nib k).length=2*k.length
 |[]=>rfl
 |b::r=>by simp only[nib,AE,nib_len r];omega
theorem RC:∀a b:τ,nib (a++b)=nib a++nib b
 |[],_=>rfl
 |x::a,b=>by simp only[BS,nib,RC a b]
theorem nib_bd:∀k:τ,isB k->∀x∈nib k,0<=x/\x<=15
 |[],_,x,h=>by cases h
 |b::r,c,x,h=>by
  obtain⟨d,a⟩:=OC c;rcases Ay.1 h with rfl|h
  ·omega
  rcases Ay.1 h with rfl|h
  ·omega
  ·exact nib_bd r a x h
theorem Nx{k:τ}(h:isB k):isB (nib k):=λx a=>by have:=nib_bd k h x a;omega
theorem getD_mem{l:τ}{i:Nat}(h:i<l.length):l.getD i 0∈l:=by
 rw[List.getD,Ad h];exact Bh _
theorem KZ{b:τ}(h:isB b)(i:Nat):isB (b.drop i):=λx a=>h x (BA a)
theorem take_snoc{b:τ}{i:Nat}(a:i<b.length):b.take (i+1)=b.take i++[b.getD i 0]:=by
 rw[BP,Ad a];simp[List.getD,Ad a]
theorem OD{b:τ}{i:Nat}(a:i<b.length):nib (b.take (i+1))=nib (b.take i)++[b.getD i 0/16,b.getD i 0%16]:=by
 rw[take_snoc a,RC];rfl
def rightP(p:τ):Bool:=p.all λx=>decide (x<=15)
theorem rightP_iff{p:τ}:rightP p=true↔∀x∈p,x<=15:=by simp[rightP]
theorem JH{k:τ}(h:isB k):rightP (nib k)=true:=rightP_iff.2 λx a=>(nib_bd k h x a).2
theorem OE{p:τ}{j:Nat}(h:j<p.length)(a:p.getD j 0>15):rightP p=false:=by
 cases e:rightP p with
 |false=>rfl
 |true=>have:=rightP_iff.1 e _ (getD_mem h);omega
theorem Mw{p:τ}(h:∀i,i<p.length->p.getD i 0<=15):rightP p=true:=rightP_iff.2 λx b=>by
 obtain⟨i,a,rfl⟩:=List.getElem_of_mem b;have:=h i a;rwa [List.getD,Ad a]at this
theorem IR{p:τ}(h:rightP p=true){i:Nat}(a:i<p.length):p.getD i 0<=15:=rightP_iff.1 h _ (getD_mem a)
theorem Mx{p q:τ}:rightP (p++q)=(rightP p&&rightP q):=by simp[rightP]
def kk:τ->τ
 |a::b::r=>(16*a+b)::kk r
 |_=>[]
theorem kk_nib:∀k:τ,kk (nib k)=k
 |[]=>rfl
 |b::r=>by simp only[nib,kk,kk_nib r];congr 1;omega
theorem Ny:∀p:τ,(kk p).length=p.length/2
 |[]=>rfl
 |[_]=>by simp[kk]
 |a::b::r=>by simp only[kk,AE,Ny r];omega
theorem Qk:∀(p:τ)(i:Nat),2*i+1<p.length->(kk p).getD i 0=16*p.getD (2*i) 0+p.getD (2*i+1) 0
 |[],i,h=>by simp at h
 |[_],i,h=>by simp at h
 |a::b::r,0,h=>rfl
 |a::b::r,i+1,h=>by
  have c:2*i+1<r.length:=by simp at h;omega
  have:=Qk r i c;simp only[kk];rw[show 2*(i+1)=2*i+1+1 from by omega];simpa using this
theorem Vc:∀p:τ,isB p->rightP p=true->p.length%2=0->nib (kk p)=p
 |[],_,_,_=>rfl
 |[_],_,_,h=>by simp at h
 |a::b::r,c,e,f=>by
  have l:=c a (by simp);have k:=rightP_iff.1 e b (by simp);have j:=c b (by simp);have i:isB r:=λx d=>c x (by simp[d]);have g:rightP r=true:=rightP_iff.2 λx d=>rightP_iff.1 e x (by simp[d]);simp only[kk,nib,Vc r i g (by simp at f;omega)];rw[show(16*a+b)/16=a from by omega,show(16*a+b)%16=b from by omega]
theorem Nz:∀p:τ,isB p->rightP p=true->isB (kk p)
 |[],_,_=>λx c=>by cases c
 |[_],_,_=>λx c=>by simp[kk]at c
 |a::b::r,e,d=>by
  have j:=e a (by simp);have i:=rightP_iff.1 d a (by simp);have h:=rightP_iff.1 d b (by simp);have g:=e b (by simp);have f:=Nz r (λx c=>e x (by simp[c])) (rightP_iff.2 λx c=>rightP_iff.1 d x (by simp[c]));intro x c;simp only[kk]at c;rcases Ay.1 c with rfl|c
  ·omega
  ·exact f x c
def keyP(p:τ):τ×Bool:=if rightP p=true/\p.length%2=0 then(kk p,true)else([],false)
theorem IS{p:τ}(h:rightP p=true)(a:p.length%2=0):keyP p=(kk p,true):=Ai ⟨h,a⟩
theorem IT{p:τ}(h:¬(rightP p=true/\p.length%2=0)):keyP p=([],false):=Ae h
theorem key_nib{k:τ}(h:isB k):keyP (nib k)=(k,true):=by
 rw[IS (JH h) (by rw[nib_len];omega),kk_nib]
def hdP(n:Nat)(leaf:Bool):τ:=if n%2=0 then[if leaf then 2 else 0,0]else[(if leaf then 2 else 0)+1]
theorem hd_len(n:Nat)(leaf:Bool):(hdP n leaf).length=2-n%2:=by
 unfold hdP;split
 ·rename_i h;rw[h];rfl
 ·rename_i h;rw[show n%2=1 from by omega];rfl
theorem Xai(n:Nat)(leaf:Bool):isB (hdP n leaf):=by
 unfold hdP;cases leaf<;>split<;>(intro x a;simp at a;omega)
theorem OF(n:Nat)(leaf:Bool):rightP (hdP n leaf)=true:=by
 refine rightP_iff.2 ?_;unfold hdP;cases leaf<;>split<;>(intro x a;simp at a;omega)
def packP(p:τ)(leaf:Bool):τ×Nat:=if rightP p=true then(kk (hdP p.length leaf++p),0)else([],40)
theorem packP_yes{p:τ}{leaf:Bool}(h:rightP p=true):packP p leaf=(kk (hdP p.length leaf++p),0):=Ai h
theorem Vd{p:τ}{leaf:Bool}(h:¬rightP p=true):packP p leaf=([],40):=Ae h
theorem I6{p:τ}{leaf:Bool}(h:rightP p=true):rightP (hdP p.length leaf++p)=true:=by rw[Mx,OF,h];rfl
theorem My(p:τ)(leaf:Bool):(hdP p.length leaf++p).length%2=0:=by rw[Af,hd_len];omega
theorem IU{p:τ}{leaf:Bool}(h:isB p):isB (hdP p.length leaf++p):=by
 intro x a;rcases AP.1 a with a|a
 ·exact Xai _ _ x a
 ·exact h x a
theorem OG{p:τ}{leaf:Bool}:keyP (hdP p.length leaf++p)=if rightP p=true then(kk (hdP p.length leaf++p),true)else([],false):=by
 by_cases h:rightP p=true
 ·rw[Ai h,IS (I6 h) (My _ _)]
 ·rw[Ae h,IT];rintro⟨a,_⟩;rw[Mx,OF]at a;exact h (by simpa using a)
theorem packP_isB{p:τ}{leaf:Bool}(h:isB p):isB (packP p leaf).1:=by
 unfold packP;split
 ·rename_i a;exact Nz _ (IU h) (I6 a)
 ·intro x b;cases b
theorem pack_len{p:τ}{leaf:Bool}:(kk (hdP p.length leaf++p)).length=p.length/2+1:=by rw[Ny,Af,hd_len];omega
abbrev badU(c:Int):Prop:=c/16>3∨(c/16%2=0/\c%16≠0)
def unpP:τ->τ×Bool×Nat
 |[]=>([],false,40)
 |c::r=>if badU c then([],false,40)else((nib (c::r)).drop (if c/16%2=0 then 2 else 1),decide (c/16>=2),0)
theorem RD:unpP []=([],false,40):=rfl
theorem GG(c:Int)(r:τ):unpP (c::r)=if badU c then([],false,40)else((nib (c::r)).drop (if c/16%2=0 then 2 else 1),decide (c/16>=2),0):=rfl
theorem RF{b:τ}(h:0<b.length)(a:badU (b.getD 0 0)):unpP b=([],false,40):=by
 cases b with
 |nil=>simp at h
 |cons c r=>exact Ai a
theorem OH{b:τ}(h:0<b.length)(a:¬badU (b.getD 0 0)):unpP b=((nib b).drop (if b.getD 0 0/16%2=0 then 2 else 1),decide (b.getD 0 0/16>=2),0):=by
 cases b with
 |nil=>simp at h
 |cons c r=>exact Ae a
theorem unp_isB{b:τ}(h:isB b):isB (unpP b).1:=by
 cases b with
 |nil=>intro x a;cases a
 |cons c r=>
  rw[GG];split
  ·intro x a;cases a
  ·exact KZ (Nx h) _
theorem unp_le(b:τ):(unpP b).1.length<=2*b.length:=by
 cases b with
 |nil=>exact A8 _
 |cons c r=>
  rw[GG];split
  ·exact A8 _
  ·rw[A3,nib_len];omega
theorem unp_pack{p:τ}{leaf:Bool}(f:isB p)(h:rightP p=true):unpP (kk (hdP p.length leaf++p))=(p,leaf,0):=by
 have e:=Vc _ (IU (leaf:=leaf) f) (I6 (leaf:=leaf) h) (My p leaf);by_cases a:p.length%2=0
 ·have b:hdP p.length leaf=[if leaf then 2 else 0,0]:=Ai a;rw[b]at e⊢;simp only[BS,AH,kk]at e⊢;rw[GG];have c:¬badU (16*(if leaf=true then 2 else 0)+0):=by unfold badU;cases leaf<;>simp
  rw[Ae c,e];cases leaf<;>simp
 ·have b:hdP p.length leaf=[(if leaf then 2 else 0)+1]:=Ae a;rw[b]at e⊢;cases p with
  |nil=>simp at a
  |cons y r=>
   have i:=rightP_iff.1 h y (by simp);have g:=f y (by simp);simp only[BS,AH,kk]at e⊢;rw[GG];have d:(16*((if leaf=true then 2 else 0)+1)+y)/16=(if leaf=true then 2 else 0)+1:=(by cases leaf<;>simp<;>omega);have c:¬badU (16*((if leaf=true then 2 else 0)+1)+y):=(by unfold badU;rw[d];cases leaf<;>simp);rw[Ae c,e,d];cases leaf<;>simp
theorem pack_unp{b:τ}(j:isB b)(h:(unpP b).2.2=0):packP (unpP b).1 (unpP b).2.1=(b,0):=by
 cases b with
 |nil=>simp[unpP]at h
 |cons c r=>
  obtain⟨q,m⟩:=OC j;rw[GG]at h⊢;by_cases a:badU c
  ·rw[Ai a]at h;simp at h
  ·rw[Ae a]at h⊢;simp only;have k:=JH j;by_cases i:c/16%2=0
   ·have p:c%16=0:=DD λf=>a (.inr ⟨i,f⟩);have n:¬c/16>3:=λf=>a (.inl f);rw[Ai i];have e:(nib (c::r)).drop 2=nib r:=rfl;rw[e,packP_yes (JH m)];congr 1;have g:hdP (nib r).length (decide (c/16>=2))=[c/16,c%16]:=by
     unfold hdP;rw[Ai (by rw[nib_len];omega),p];by_cases d:c/16>=2
     ·rw[AF d];simp;omega
     ·rw[Bi d];simp;omega
    rw[g];exact kk_nib (c::r)
   ·have n:¬c/16>3:=λf=>a (.inl f);rw[Ae i];have e:(nib (c::r)).drop 1=c%16::nib r:=rfl;have l:rightP (c%16::nib r)=true:=rightP_iff.2 λx o=>rightP_iff.1 k x (by simp only[nib];exact Az _ o);rw[e,packP_yes l];congr 1;have g:hdP (c%16::nib r).length (decide (c/16>=2))=[c/16]:=by
     unfold hdP;rw[Ae (by rw[AE,nib_len];omega)];by_cases d:c/16>=2
     ·rw[AF d];simp;omega
     ·rw[Bi d];simp;omega
    rw[g];exact kk_nib (c::r)
def com:τ->τ->Nat
 |x::p,y::q=>if x=y then com p q+1 else 0
 |_,_=>0
theorem com_le:∀p q:τ,com p q<=p.length/\com p q<=q.length
 |[],_=>by simp[com]
 |_::_,[]=>by simp[com]
 |x::p,y::q=>by
  have:=com_le p q;simp only[com];split
  ·simp;omega
  ·simp
theorem com_take:∀p q:τ,p.take (com p q)=q.take (com p q)
 |[],_=>by simp[com]
 |_::_,[]=>by simp[com]
 |x::p,y::q=>by
  simp only[com];split
  ·rename_i h;subst h;simp[com_take p q]
  ·simp
theorem com_stop:∀p q:τ,com p q<p.length->com p q<q.length->p.getD (com p q) 0≠q.getD (com p q) 0
 |[],_,h,_=>by simp at h
 |_::_,[],_,h=>by simp at h
 |x::p,y::q,a,b=>by
  simp only[com]at a b⊢;split at a
  ·rename_i e;rw[Ai e]at b⊢;simp only[List.getD_cons_succ];exact com_stop p q (by simp at a;omega) (by simp at b;omega)
  ·rename_i e;rw[Ae e];exact e
theorem La:∀(p q:τ)(n:Nat),n<=p.length->n<=q.length->p.take n=q.take n->(n=p.length∨n=q.length∨p.getD n 0≠q.getD n 0)->com p q=n
 |[],q,n,b,a,c,d=>by simp at b;simp[com,b]
 |x::p,[],n,b,a,c,d=>by simp at a;simp[com,a]
 |x::p,y::q,0,b,a,c,d=>by
  simp only[com];rw[Ae];rcases d with h|h|h
  ·simp at h
  ·simp at h
  ·exact h
 |x::p,y::q,n+1,b,a,c,d=>by
  simp only[CF,List.cons.injEq]at c;simp only[com];rw[Ai c.1,La p q n (by simpa using b) (by simpa using a) c.2 (by simpa using d)]
theorem Ve:∀p q:τ,com p q=com q p
 |[],[]=>rfl
 |[],_::_=>rfl
 |_::_,[]=>rfl
 |x::p,y::q=>by
  simp only[com,Ve p q];by_cases h:x=y
  ·rw[Ai h,Ai h.symm]
  ·rw[Ae h,Ae (λe=>h e.symm)]
def lessP:τ->τ->Bool
 |_,[]=>false
 |[],_::_=>true
 |x::p,y::q=>if x=y then lessP p q else decide (x<y)
theorem FK:∀p q:τ,(lessP p q||lessP q p)=!decide (p=q)
 |[],[]=>rfl
 |[],y::q=>by simp[lessP]
 |x::p,[]=>by simp[lessP]
 |x::p,y::q=>by
  simp only[lessP];by_cases h:x=y
  ·subst h;rw[Ai rfl,Ai rfl,FK p q];simp
  ·rw[Ae h,Ae (λe=>h e.symm)];have:x<y∨y<x:=(by omega);rcases this with a|a
   ·simp[h,a]
   ·simp[h,a]
theorem less_nib:∀a b:τ,lessP (nib a) (nib b)=lessP a b
 |[],[]=>rfl
 |[],y::b=>by simp[nib,lessP]
 |_::_,[]=>by simp[nib,lessP]
 |x::a,y::b=>by
  have d:=less_nib a b;simp only[nib,lessP];by_cases h:x=y
  ·subst h;rw[Ai rfl,Ai rfl,Ai rfl,d]
  ·rw[Ae h];by_cases c:x/16=y/16
   ·rw[Ai c,Ae (by omega),CT];omega
   ·rw[Ae c,CT];omega
end Ni
inductive Tr where
 |no:Tr
 |leaf (p v:τ):Tr
 |ext (p:τ) (c:Tr):Tr
 |br (k:Nat->Tr) (v:τ):Tr
namespace Tr
def isNo:Tr->Bool
 |no=>true
 |_=>false
def isBr:Tr->Bool
 |br _ _=>true
 |_=>false
def upd(k:Nat->Tr)(i:Nat)(t:Tr):Nat->Tr:=λj=>if j=i then t else k j
theorem Cs(k:Nat->Tr)(i:Nat)(t:Tr):upd k i t i=t:=by simp[upd]
theorem Cc(k:Nat->Tr){i j:Nat}(t:Tr)(h:j≠i):upd k i t j=k j:=by simp[upd,h]
def nk:Nat->Tr:=λ_=>no
def get:Tr->τ->τ
 |no,_=>[]
 |leaf p v,q=>if q=p then v else[]
 |ext p c,q=>if q.take p.length=p then get c (q.drop p.length)else[]
 |br k v,[]=>v
 |br k v,i::r=>get (k i.toNat) r
def und(p:τ):Tr->Tr
 |no=>no
 |leaf q v=>leaf (p++q) v
 |ext q c=>ext (p++q) c
 |br k v=>if p=[]then br k v else ext p (br k v)
def add(k:Nat->Tr)(x:τ)(q v:τ):Tr:=match q with
 |[]=>br k v
 |i::r=>br (upd k i.toNat (leaf r v)) x
def addT(t:Tr)(q v:τ):Tr:=match t with
 |br k x=>add k x q v
 |t=>t
def put:Tr->τ->τ->Tr
 |no,q,v=>leaf q v
 |leaf p x,q,v=>if q=p then leaf q v else und (q.take (Ni.com p q)) (addT (add nk [] (p.drop (Ni.com p q)) x) (q.drop (Ni.com p q)) v)
 |ext p c,q,v=>if Ni.com p q=p.length then ext p (put c (q.drop p.length) v)else und (q.take (Ni.com p q)) (add (upd nk (p.getD (Ni.com p q) 0).toNat (und (p.drop (Ni.com p q+1)) c)) [] (q.drop (Ni.com p q)) v)
 |br k x,[],v=>br k v
 |br k x,i::r,v=>br (upd k i.toNat (put (k i.toNat) r v)) x
def kidsN(k:Nat->Tr):Nat->Nat
 |0=>0
 |n+1=>kidsN k n+if(k n).isNo then 0 else 1
def lastN(k:Nat->Tr):Nat->Nat
 |0=>0
 |n+1=>if(k n).isNo then lastN k n else n
def nrm(k:Nat->Tr)(x:τ):Tr:=
 if kidsN k 16=0 then leaf [] x else if kidsN k 16=1/\x=[]then und [(lastN k 16:Int)] (k (lastN k 16))else br k x
def del:Tr->τ->Tr
 |no,_=>no
 |leaf _ _,_=>no
 |ext p c,q=>und p (del c (q.drop p.length))
 |br k x,[]=>nrm k []
 |br k x,i::r=>nrm (upd k i.toNat (del (k i.toNat) r)) x
def Nb(p:τ):Prop:=∀i∈p,0<=i/\i<16
theorem Nb.drop{p:τ}(h:Nb p)(n:Nat):Nb (p.drop n):=λi a=>h i (BA a)
theorem Nb.app{p q:τ}(h:Nb p)(k:Nb q):Nb (p++q):=λi a=>by
 rcases AP.1 a with a|a
 ·exact h i a
 ·exact k i a
theorem Nb.head{i:Int}{r:τ}(h:Nb (i::r)):0<=i/\i<16:=h i (by simp)
theorem Nb.tail{i:Int}{r:τ}(h:Nb (i::r)):Nb r:=λj a=>h j (Az _ a)
def two(k:Nat->Tr)(x:τ):Prop:=(∃i j,i≠j/\k i≠no/\k j≠no)∨(x≠[]/\∃i,k i≠no)
def Ok:Nat->Tr->Prop
 |_,no=>False
 |B,leaf p v=>Nb p/\p.length<=B/\v≠[]
 |B,ext p c=>Nb p/\p≠[]/\p.length<=B/\c.isBr=true/\Ok (B-p.length) c
 |B,br k x=>(∀i,k i=no∨(i<16/\1<=B/\Ok (B-1) (k i)))/\two k x
theorem K9(p:τ)(t:Tr)(q:τ):get (und p t) q=if q.take p.length=p then get t (q.drop p.length)else[]:=by
 cases t with
 |no=>simp[und,get]
 |leaf r v=>
  simp only[und,get];by_cases h:q.take p.length=p
  ·rw[Ai h];have e:q=p++q.drop p.length:=(by conv=>lhs;rw[<-Bj p.length q,h]);by_cases a:q.drop p.length=r
   ·rw[Ai a,Ai (by rw[e,a])]
   ·rw[Ae a,Ae (λb=>a (by rw[b];simp))]
  ·rw[Ae h,Ae (λe=>h (by rw[e];simp))]
 |ext r c=>
  simp only[und,get,Af];by_cases h:q.take p.length=p
  ·rw[Ai h];have e:q.take (p.length+r.length)=p++(q.drop p.length).take r.length:=by
    rw[List.take_add,h]
   rw[e,List.drop_drop];by_cases a:(q.drop p.length).take r.length=r
   ·rw[Ai a,Ai (by rw[a])]
   ·rw[Ae a,Ae (λb=>a (List.append_cancel_left b))]
  ·rw[Ae h,Ae (λe=>h (by
    have:=Ao (List.take p.length) e;rw[Ev,CJ (by omega)]at this;simpa using this))]
 |br k v=>
  simp only[und];by_cases h:p=[]
  ·subst h;simp
  ·rw[Ae h];simp only[get]
theorem Lb{B:Nat}{p:τ}{t:Tr}(b:Nb p)(h:Ok B t):Ok (B+p.length) (und p t):=by
 cases t with
 |no=>exact h
 |leaf q v=>exact⟨b.app h.1,by simp;have:=h.2.1;omega,h.2.2⟩
 |ext q c=>
  obtain⟨f,d,i,e,g⟩:=h;refine⟨b.app f,by simp[d],by simp;omega,e,?_⟩;rw[show B+p.length-(p++q).length=B-q.length from by simp;omega];exact g
 |br k v=>
  simp only[und];by_cases a:p=[]
  ·rw[Ai a,a];exact h
  ·rw[Ae a];refine⟨b,a,by omega,rfl,?_⟩;rw[show B+p.length-p.length=B from by omega];exact h
theorem Ok.ne{B:Nat}{t:Tr}(h:Ok B t):t≠no:=λe=>by rw[e]at h;exact h
theorem isNo_iff{t:Tr}:t.isNo=true↔t=no:=by cases t<;>simp[isNo]
end Tr
namespace Tr
def Hd(a b:τ):Prop:=a=[]∨b=[]∨∃i a' j b',a=i::a'/\b=j::b'/\i≠j
theorem Gg(p q:τ):∃Q a b,p=Q++a/\q=Q++b/\Ni.com p q=Q.length/\Hd a b:=by
 obtain⟨f,g⟩:=Ni.com_le p q;refine⟨p.take (Ni.com p q),p.drop (Ni.com p q),q.drop (Ni.com p q),(Bj _ _).symm,?_,?_,?_⟩
 ·rw[Ni.com_take,Bj]
 ·rw[Ap];omega
 ·by_cases c:Ni.com p q<p.length
  ·by_cases d:Ni.com p q<q.length
   ·have e:=Ni.com_stop p q c d;right;right;refine⟨p.getD (Ni.com p q) 0,p.drop (Ni.com p q+1),q.getD (Ni.com p q) 0,q.drop (Ni.com p q+1),?_,?_,e⟩
    ·rw[Bv c];simp[List.getD,Ad c]
    ·rw[Bv d];simp[List.getD,Ad d]
   ·right;left;exact BL (by omega)
  ·left;exact BL (by omega)
theorem RG(Q q':τ):q'.take Q.length=Q↔∃s,q'=Q++s:=by
 constructor
 ·intro h;exact⟨q'.drop Q.length,by conv=>lhs;rw[<-Bj Q.length q',h]⟩
 ·rintro⟨s,rfl⟩;simp
theorem Hv(p:τ)(c:Tr)(s:τ):get (ext p c) (p++s)=get c s:=by simp[get]
theorem DZ(p:τ)(c:Tr)(q:τ)(h:¬∃s,q=p++s):get (ext p c) q=[]:=by
 rw[get,Ae (λe=>h ((RG p q).1 e))]
theorem FR(p:τ)(t:Tr)(s:τ):get (und p t) (p++s)=get t s:=by rw[K9];simp
theorem Gw(p:τ)(t:Tr)(q:τ)(h:¬∃s,q=p++s):get (und p t) q=[]:=by
 rw[K9,Ae (λe=>h ((RG p q).1 e))]
theorem Yb{a b x v:τ}(m:Hd a b)(l:a≠b)(g:Nb a)(k:Nb b)(s:τ)(f:Nb s):get (addT (add nk [] a x) b v) s=if s=b then v else if s=a then x else[]:=by
 cases a with
 |nil=>
  cases b with
  |nil=>exact absurd rfl l
  |cons j n=>
   simp only[add,addT];cases s with
   |nil=>simp[get]
   |cons i s'=>
    simp only[get];by_cases c:i=j
    ·subst c;rw[Cs];simp[get]
    ·rw[Cc _ _ (by have:=f.head;have:=k.head;omega)];simp[nk,get,c]
 |cons i a'=>
  cases b with
  |nil=>
   simp only[add,addT];cases s with
   |nil=>simp[get]
   |cons h s'=>
    simp only[get];by_cases c:h=i
    ·subst c;rw[Cs];simp[get]
    ·rw[Cc _ _ (by have:=f.head;have:=g.head;omega)];simp[nk,get,c]
  |cons j n=>
   have c:i≠j:=by
    rcases m with h|h|⟨_,_,_,_,d,e,o⟩
    ·cases h
    ·cases h
    ·cases d;cases e;exact o
   simp only[add,addT];cases s with
   |nil=>simp[get]
   |cons h s'=>
    simp only[get];have q:=f.head;have r:=g.head;have p:=k.head;by_cases d:h=j
    ·subst d;rw[Cs];simp[get,Ne.symm c]
    ·rw[Cc _ _ (by omega)];by_cases e:h=i
     ·subst e;rw[Cs];simp[get,d]
     ·rw[Cc _ _ (by omega)];simp[nk,get,d,e]
theorem Vf{i:Int}{b v:τ}{U:Tr}(n:0<=i)(f:Hd [i] b)(l:Nb b)(s:τ)(e:Nb s):get (add (upd nk i.toNat U) [] b v) s=if s=b then v else match s with|[]=>[]|h::r=>if h=i then get U r else[]:=by
 cases b with
 |nil=>
  simp only[add];cases s with
  |nil=>simp[get]
  |cons h s'=>
   simp only[get];have g:=e.head;by_cases c:h=i
   ·subst c;rw[Cs];simp
   ·rw[Cc _ _ (by omega)];simp[nk,get,c]
 |cons j o=>
  have c:i≠j:=by
   rcases f with h|h|⟨_,_,_,_,a,d,k⟩
   ·cases h
   ·cases h
   ·cases a;cases d;exact k
  simp only[add];cases s with
  |nil=>simp[get]
  |cons h s'=>
   simp only[get];have g:=e.head;have m:=l.head;by_cases a:h=j
   ·subst a;rw[Cs];simp[get,Ne.symm c]
   ·rw[Cc _ _ (by omega)];by_cases d:h=i
    ·subst d;rw[Cs];simp[a]
    ·rw[Cc _ _ (by omega)];simp[nk,get,a,d]
theorem Nb.of_app{p q:τ}(h:Nb (p++q)):Nb p/\Nb q:=⟨λi a=>h i (DJ _ a),λi a=>h i (DB _ a)⟩
theorem KB{Q a b:τ}:Q++a=Q++b↔a=b:=⟨List.append_cancel_left,λh=>by rw[h]⟩
theorem Yd:∀(t:Tr)(B:Nat)(q v q':τ),(t=no∨Ok B t)->Nb q->Nb q'->get (put t q v) q'=if q'=q then v else get t q':=by
 intro t
 induction t with
 |no=>intro B q v q' _ _ _;simp[put,get]
 |leaf p x=>
  intro B q v q' h m f;have S:Nb p:=by
   rcases h with h|h
   ·cases h
   ·exact h.1
  simp only[put];by_cases e:q=p
  ·rw[Ai e,get,get];by_cases l:q'=q
   ·rw[Ai l,Ai l]
   ·rw[Ae l,Ae l,Ae (by rw[<-e];exact l)]
  ·rw[Ae e];obtain⟨Q,a,b,rfl,rfl,H,A⟩:=Gg p q;rw[H];simp only[D6,Cn];have K:a≠b:=λq=>e (by rw[q]);obtain⟨N,G⟩:=S.of_app;obtain⟨_,w⟩:=m.of_app;by_cases d:∃s,q'=Q++s
   ·obtain⟨s,rfl⟩:=d;rw[FR,Yb A K G w s f.of_app.2,get];simp only[KB]
   ·rw[Gw _ _ _ d,Ae (λe=>d ⟨b,e⟩),get,Ae (λe=>d ⟨a,e⟩)]
 |ext p c F=>
  intro B q v q' h m f;have D:Ok B (ext p c):=by
   rcases h with h|h
   ·cases h
   ·exact h
  obtain⟨O,l,E,Y,I⟩:=D;obtain⟨Q,a,b,rfl,rfl,H,A⟩:=Gg p q;simp only[put];rw[H];obtain⟨N,G⟩:=O.of_app;obtain⟨_,w⟩:=m.of_app;by_cases J:a=[]
  ·subst J;simp only[A7]at l E I⊢;rw[Ai trivial];simp only[Cn];by_cases d:∃s,q'=Q++s
   ·obtain⟨s,rfl⟩:=d;rw[Hv,Hv,F _ b v s (.inr I) w f.of_app.2];simp only[KB]
   ·rw[DZ _ _ _ d,DZ _ _ _ d,Ae (λe=>d ⟨b,e⟩)]
  ·obtain⟨i,a',rfl⟩:∃i a',a=i::a':=by
    cases a with
    |nil=>exact absurd rfl J
    |cons i a'=>exact⟨i,a',rfl⟩
   rw[Ae (by simp)];have W:(Q++i::a').getD Q.length 0=i:=(by simp[List.getD]);have R:(Q++i::a').drop (Q.length+1)=a':=by
    rw[show Q++i::a'=(Q++[i])++a' from by simp,show Q.length+1=(Q++[i]).length from by simp,Cn]
   have z:=G.head;have U:Hd [i] b:=by
    rcases A with h|h|⟨_,_,j,L,V,P,T⟩
    ·cases h
    ·exact .inr (.inl h)
    ·cases V;exact .inr (.inr ⟨i,[],j,L,rfl,P,T⟩)
   rw[W,R];simp only[D6,Cn];by_cases d:∃s,q'=Q++s
   ·obtain⟨s,rfl⟩:=d;rw[FR,Vf z.1 U w s f.of_app.2];simp only[KB];by_cases o:s=b
    ·rw[Ai o,Ai o]
    ·rw[Ae o,Ae o];cases s with
     |nil=>
      rw[DZ];rintro⟨r,n⟩;have:=Ao List.length n;simp at this
     |cons g r=>
      simp only;by_cases C:g=i
      ·subst C;rw[Ai rfl];by_cases n:∃u,r=a'++u
       ·obtain⟨u,rfl⟩:=n;rw[FR,show Q++g::(a'++u)=(Q++g::a')++u from by simp,Hv]
       ·rw[Gw _ _ _ n,DZ];rintro⟨u,y⟩;exact n ⟨u,by simpa using y⟩
      ·rw[Ae C,DZ];rintro⟨u,y⟩;simp at y;exact C y.1
   ·rw[Gw _ _ _ d,Ae (λe=>d ⟨b,e⟩),DZ];rintro⟨u,rfl⟩;exact d ⟨i::a'++u,by simp⟩
 |br k x F=>
  intro B q v q' h m f;have D:Ok B (br k x):=by
   rcases h with h|h
   ·cases h
   ·exact h
  cases q with
  |nil=>
   simp only[put];cases q' with
   |nil=>simp[get]
   |cons h r=>simp[get]
  |cons i r=>
   simp only[put];cases q' with
   |nil=>simp[get]
   |cons h s=>
    simp only[get];have X:=m.head;have Z:=f.head;by_cases z:h=i
    ·subst z
     rw[Cs,F _ (B-1) r v s (by
      rcases D.1 h.toNat with M|⟨_,_,E⟩
      ·exact .inl M
      ·exact .inr E) m.tail f.tail]
     simp
    ·rw[Cc _ _ (by omega)];simp[z]
theorem Ye{k:Nat->Tr}{x:τ}(h:two k x)(i:Nat){t:Tr}(g:t≠no):two (upd k i t) x:=by
 have d:∀j,k j≠no->upd k i t j≠no:=λj m=>by
  unfold upd;by_cases e:j=i
  ·rw[Ai e];exact g
  ·rw[Ae e];exact m
 rcases h with⟨a,b,c,f,l⟩|⟨c,a,f⟩
 ·exact .inl ⟨a,b,c,d a f,d b l⟩
 ·exact .inr ⟨c,a,d a f⟩
theorem Yf{k:Nat->Tr}{x v:τ}(h:two k x)(d:v≠[]):two k v:=by
 rcases h with⟨a,b,e,c,f⟩|⟨e,a,c⟩
 ·exact .inr ⟨d,a,c⟩
 ·exact .inr ⟨d,a,c⟩
theorem Ok.mono{B:Nat}:∀{t:Tr}{C:Nat},Ok B t->B<=C->Ok C t:=by
 intro t
 induction t generalizing B with
 |no=>intro C h _;exact h
 |leaf p v=>intro C h b;exact⟨h.1,by have:=h.2.1;omega,h.2.2⟩
 |ext p c a=>intro C h b;exact⟨h.1,h.2.1,by have:=h.2.2.1;omega,h.2.2.2.1,a h.2.2.2.2 (by omega)⟩
 |br k x a=>
  intro C h b;refine⟨λi=>?_,h.2⟩;rcases h.1 i with e|⟨d,g,f⟩
  ·exact .inl e
  ·exact .inr ⟨d,by omega,a i f (by omega)⟩
theorem put_ok:∀(t:Tr)(B:Nat)(q v:τ),(t=no∨Ok B t)->Nb q->q.length<=B->v≠[]->Ok B (put t q v):=by
 intro t
 induction t with
 |no=>intro B q v _ l f d;exact⟨l,f,d⟩
 |leaf p x=>
  intro B q v h l f d;have g:Ok B (leaf p x):=by
   rcases h with h|h
   ·cases h
   ·exact h
  obtain⟨U,F,H⟩:=g;simp only[put];by_cases e:q=p
  ·rw[Ai e];exact⟨l,f,d⟩
  ·rw[Ae e];obtain⟨Q,a,b,rfl,rfl,J,E⟩:=Gg p q;rw[J];simp only[D6,Cn];have P:a≠b:=λq=>e (by rw[q]);obtain⟨z,w⟩:=U.of_app;obtain⟨_,m⟩:=l.of_app;simp only[Af]at f F;refine Ok.mono (Lb (B:=B-Q.length) z ?_) (by omega);cases a with
   |nil=>
    cases b with
    |nil=>exact absurd rfl P
    |cons j K=>
     simp only[add,addT];have L:=m.head;refine⟨λi=>?_, .inr ⟨H,j.toNat,by rw[Cs];simp⟩⟩;by_cases n:i=j.toNat
     ·subst n;rw[Cs];simp at f;exact .inr ⟨by omega,by omega,m.tail,by omega,d⟩
     ·rw[Cc _ _ n];exact .inl rfl
   |cons i a'=>
    have W:=w.head;cases b with
    |nil=>
     simp only[add,addT];refine⟨λj=>?_, .inr ⟨d,i.toNat,by rw[Cs];simp⟩⟩;by_cases n:j=i.toNat
     ·subst n;rw[Cs];simp at F;exact .inr ⟨by omega,by omega,w.tail,by omega,H⟩
     ·rw[Cc _ _ n];exact .inl rfl
    |cons j K=>
     have R:i≠j:=by
      rcases E with h|h|⟨_,_,_,_,u,o,s⟩
      ·cases h
      ·cases h
      ·cases u;cases o;exact s
     have L:=m.head;simp at F f;simp only[add,addT];refine⟨λh=>?_, .inl ⟨i.toNat,j.toNat,by omega,?_,?_⟩⟩
     ·by_cases u:h=j.toNat
      ·subst u;rw[Cs];exact .inr ⟨by omega,by omega,m.tail,by omega,d⟩
      ·rw[Cc _ _ u];by_cases o:h=i.toNat
       ·subst o;rw[Cs];exact .inr ⟨by omega,by omega,w.tail,by omega,H⟩
       ·rw[Cc _ _ o];exact .inl rfl
     ·rw[Cc _ _ (by omega),Cs];simp
     ·rw[Cs];simp
 |ext p c I=>
  intro B q v h l f d;have g:Ok B (ext p c):=by
   rcases h with h|h
   ·cases h
   ·exact h
  obtain⟨u,o,s,G,y⟩:=g;obtain⟨Q,a,b,rfl,rfl,J,E⟩:=Gg p q;simp only[put];rw[J];obtain⟨z,w⟩:=u.of_app;obtain⟨_,m⟩:=l.of_app;simp only[Af]at f s y;by_cases O:a=[]
  ·subst O;simp only[A7]at o s y⊢;rw[Ai trivial];simp only[Cn];refine⟨z,o,by omega,?_,?_⟩
   ·cases c with
    |br k x=>cases b<;>simp[put,isBr]
    |no=>simp[isBr]at G
    |leaf _ _=>simp[isBr]at G
    |ext _ _=>simp[isBr]at G
   ·exact I (B-Q.length) b v (.inr (by simpa using y)) m (by omega) d
  ·obtain⟨i,a',rfl⟩:∃i a',a=i::a':=by
    cases a with
    |nil=>exact absurd rfl O
    |cons i a'=>exact⟨i,a',rfl⟩
   rw[Ae (by simp)];have X:(Q++i::a').getD Q.length 0=i:=(by simp[List.getD]);have T:(Q++i::a').drop (Q.length+1)=a':=by
    rw[show Q++i::a'=(Q++[i])++a' from by simp,show Q.length+1=(Q++[i]).length from by simp,Cn]
   rw[X,T];simp only[D6,Cn];have W:=w.head;simp at s y;refine Ok.mono (Lb (B:=B-Q.length) z ?_) (by omega);have C:Ok (B-Q.length-1) (und a' c):=Ok.mono (Lb w.tail y) (by omega);cases b with
   |nil=>
    simp only[add];refine⟨λj=>?_, .inr ⟨d,i.toNat,by rw[Cs];exact C.ne⟩⟩;by_cases n:j=i.toNat
    ·subst n;rw[Cs];exact .inr ⟨by omega,by omega,C⟩
    ·rw[Cc _ _ n];exact .inl rfl
   |cons j K=>
    have R:i≠j:=by
     rcases E with h|h|⟨_,_,_,_,D,A,V⟩
     ·cases h
     ·cases h
     ·cases D;cases A;exact V
    have L:=m.head;simp at f;simp only[add];refine⟨λh=>?_, .inl ⟨i.toNat,j.toNat,by omega,?_,?_⟩⟩
    ·by_cases D:h=j.toNat
     ·subst D;rw[Cs];exact .inr ⟨by omega,by omega,m.tail,by omega,d⟩
     ·rw[Cc _ _ D];by_cases A:h=i.toNat
      ·subst A;rw[Cs];exact .inr ⟨by omega,by omega,C⟩
      ·rw[Cc _ _ A];exact .inl rfl
    ·rw[Cc _ _ (by omega),Cs];exact C.ne
    ·rw[Cs];simp
 |br k x I=>
  intro B q v h l f d;have g:Ok B (br k x):=by
   rcases h with h|h
   ·cases h
   ·exact h
  cases q with
  |nil=>exact⟨g.1,Yf g.2 d⟩
  |cons i r=>
   simp only[put];have Y:=l.head;simp at f
   have M:Ok (B-1) (put (k i.toNat) r v):=I i.toNat (B-1) r v (by
    rcases g.1 i.toNat with S|⟨_,_,s⟩
    ·exact .inl S
    ·exact .inr s) l.tail (by omega) d
   refine⟨λj=>?_,Ye g.2 _ M.ne⟩;by_cases N:j=i.toNat
   ·subst N;rw[Cs];exact .inr ⟨by omega,by omega,M⟩
   ·rw[Cc _ _ N];exact g.1 j
end Tr
namespace Tr
theorem RH{k:Nat->Tr}:∀{n:Nat},kidsN k n=0->∀i,i<n->k i=no
 |0,_,i,h=>by omega
 |n+1,h,i,b=>by
  simp only[kidsN]at h;by_cases e:i=n
  ·subst e;by_cases a:(k i).isNo=true
   ·exact isNo_iff.1 a
   ·rw[Ae a]at h;omega
  ·exact RH (n:=n) (by omega) i (by omega)
theorem Mz{k:Nat->Tr}:∀{n:Nat},kidsN k n=1->lastN k n<n/\k (lastN k n)≠no/\∀j,j<n->j≠lastN k n->k j=no
 |0,h=>by simp[kidsN]at h
 |n+1,h=>by
  simp only[kidsN]at h;by_cases a:(k n).isNo=true
  ·rw[Ai a]at h;obtain⟨g,d,f⟩:=Mz (n:=n) (by omega);simp only[lastN];rw[Ai a];refine⟨by omega,d,λj c b=>?_⟩;by_cases e:j=n
   ·subst e;exact isNo_iff.1 a
   ·exact f j (by omega) b
  ·rw[Ae a]at h;simp only[lastN];rw[Ae a];refine⟨by omega,λe=>a (isNo_iff.2 e),λj c b=>RH (n:=n) (by omega) j (by omega)⟩
theorem Vg{k:Nat->Tr}:∀{n:Nat},2<=kidsN k n->∃i j,i≠j/\k i≠no/\k j≠no
 |0,h=>by simp[kidsN]at h
 |n+1,h=>by
  simp only[kidsN]at h;by_cases a:(k n).isNo=true
  ·rw[Ai a]at h;exact Vg (n:=n) (by omega)
  ·rw[Ae a]at h;by_cases c:kidsN k n=1
   ·obtain⟨d,b,_⟩:=Mz c;exact⟨lastN k n,n,by omega,b,λe=>a (isNo_iff.2 e)⟩
   ·exact Vg (n:=n) (by omega)
theorem RI{k:Nat->Tr}{x q:τ}(d:∀i,k i=no∨i<16)(f:Nb q):get (nrm k x) q=get (br k x) q:=by
 unfold nrm;by_cases c:kidsN k 16=0
 ·rw[Ai c];have g:∀i,k i=no:=λi=>by
   rcases d i with h|h
   ·exact h
   ·exact RH c i h
  cases q with
  |nil=>simp[get]
  |cons i r=>simp[get,g]
 ·rw[Ae c];by_cases a:kidsN k 16=1/\x=[]
  ·rw[Ai a];obtain⟨a,rfl⟩:=a;obtain⟨l,m,j⟩:=Mz a;cases q with
   |nil=>rw[K9];simp[get]
   |cons i r=>
    have b:=f.head;rw[K9];simp only[AE,BV,A6,CF,BM,List.drop_succ_cons,C1,get];by_cases e:i=(lastN k 16:Int)
    ·rw[Ai (by rw[e]),e];simp
    ·rw[Ae (by simpa using e),j i.toNat (by omega) (by omega)];simp[get]
  ·rw[Ae a]
theorem Vh{B:Nat}{k:Nat->Tr}{x:τ}(c:∀i,k i=no∨(i<16/\1<=B/\Ok (B-1) (k i)))(n:x≠[]∨∃i,k i≠no):Ok B (nrm k x):=by
 unfold nrm;by_cases f:kidsN k 16=0
 ·rw[Ai f];refine⟨(λi j=>by cases j),A8 _,?_⟩;rcases n with h|⟨i,h⟩
  ·exact h
  ·rcases c i with a|⟨a,_⟩
   ·exact absurd a h
   ·exact absurd (RH f i a) h
 ·rw[Ae f];by_cases a:kidsN k 16=1/\x=[]
  ·rw[Ai a];obtain⟨l,d,_⟩:=Mz a.1;rcases c (lastN k 16)with b|⟨b,g,m⟩
   ·exact absurd b d
   ·exact Ok.mono (Lb (p:=[(lastN k 16:Int)]) (λi j=>by simp at j;omega) m) (by simp;omega)
  ·rw[Ae a];refine⟨c,?_⟩;by_cases b:2<=kidsN k 16
   ·exact .inl (Vg b)
   ·have g:kidsN k 16=1:=(by omega);obtain⟨l,d,_⟩:=Mz g;exact .inr ⟨λe=>a ⟨g,e⟩,_,d⟩
theorem N3:∀(t:Tr)(B:Nat)(q:τ),Ok B t->Nb q->get t q≠[]->(del t q=no∨Ok B (del t q))/\(t.isBr=true->Ok B (del t q)):=by
 intro t
 induction t with
 |no=>intro B q h;exact h.elim
 |leaf p v=>intro B q _ _ _;exact⟨.inl rfl,λh=>by simp[isBr]at h⟩
 |ext p c l=>
  intro B q h f d;obtain⟨g,n,o,z,A⟩:=h;have C:∃s,q=p++s:=DD λE=>d (DZ p c q E);obtain⟨s,rfl⟩:=C;rw[Hv]at d;have:=(l (B-p.length) s A f.of_app.2 d).2 z;refine⟨.inr ?_,λh=>by simp[isBr]at h⟩;simp only[del,Cn];exact Ok.mono (Lb g this) (by omega)
 |br k x l=>
  intro B q h f d;have m:Ok B (del (br k x) q):=by
   cases q with
   |nil=>
    simp only[del];refine Vh h.1 (.inr ?_);rcases h.2 with⟨i,_,_,h,_⟩|⟨_,i,h⟩<;>exact⟨i,h⟩
   |cons i r=>
    simp only[del];have b:=f.head;simp only[get]at d;have w:k i.toNat≠no:=λe=>d (by rw[e];rfl);rcases h.1 i.toNat with y|⟨g,n,o⟩
    ·exact absurd y w
    ·have hd:=(l i.toNat (B-1) r o f.tail d).1;refine Vh (λj=>?_) ?_
     ·by_cases u:j=i.toNat
      ·subst u;rw[Cs];rcases hd with hd|hd
       ·exact .inl hd
       ·exact .inr ⟨g,n,hd⟩
      ·rw[Cc _ _ u];exact h.1 j
     ·rcases h.2 with⟨a,c,H,F,G⟩|⟨D,_⟩
      ·by_cases e:a=i.toNat
       ·exact .inr ⟨c,by rw[Cc _ _ (by omega)];exact G⟩
       ·exact .inr ⟨a,by rw[Cc _ _ e];exact F⟩
      ·exact .inl D
  exact⟨.inr m,λ_=>m⟩
theorem Yg:∀(t:Tr)(B:Nat)(q q':τ),Ok B t->Nb q->Nb q'->get t q≠[]->get (del t q) q'=if q'=q then[]else get t q':=by
 intro t
 induction t with
 |no=>intro B q q' h;exact h.elim
 |leaf p v=>
  intro B q q' _ _ _ a;simp only[get]at a⊢;by_cases e:q=p
  ·subst e;simp only[del,get];by_cases h:q'=q
   ·rw[Ai h]
   ·rw[Ae h,Ae h]
  ·rw[Ae e]at a;exact absurd rfl a
 |ext p c g=>
  intro B q q' h f d a;obtain⟨E,C,n,D,y⟩:=h;have o:∃s,q=p++s:=DD λA=>a (DZ p c q A);obtain⟨s,rfl⟩:=o;rw[Hv]at a;simp only[del,Cn];by_cases l:∃u,q'=p++u
  ·obtain⟨u,rfl⟩:=l;rw[FR,Hv,g _ s u y f.of_app.2 d.of_app.2 a];simp only[KB]
  ·rw[Gw _ _ _ l,DZ _ _ _ l];simp
 |br k x g=>
  intro B q q' h f d a;have m:∀i,k i=no∨i<16:=λi=>(h.1 i).imp id (·.1);cases q with
  |nil=>
   simp only[del];rw[RI m d];cases q' with
   |nil=>simp[get]
   |cons j s=>simp[get]
  |cons i r=>
   have b:=f.head;simp only[del];simp only[get]at a
   rw[RI (λj=>by
    by_cases w:j=i.toNat
    ·right;omega
    ·rw[Cc _ _ w];exact m j) d]
   cases q' with
   |nil=>simp[get]
   |cons j s=>
    have F:=d.head;simp only[get];by_cases e:j=i
    ·subst e;rcases h.1 j.toNat with z|⟨_,_,n⟩
     ·rw[z]at a;exact absurd rfl a
     ·rw[Cs,g _ (B-1) r s n f.tail d.tail a];simp
    ·rw[Cc _ _ (by omega)];simp[e]
end Tr
namespace Ni
def Row(g:Nat)(w:Γ)(R:τ):Prop:=w.heap[g]?=some (.cells (R.map (Value.int .u8)).toArray 5)
theorem Row.set{g:Nat}{w:Γ}{R:τ}(h:Row g w R)(i:Nat)(x:Int):Row g (w.setCell ⟨g,i,none⟩ (η x)) (R.set i x):=by
 have:=AU w g i _ 5 (η x) h;unfold Row;rw[this];congr 2;rw[D7,ES]
theorem Row.cell{g:Nat}{w:Γ}{R:τ}(h:Row g w R){i:Nat}(hi:i<R.length):w.cell? ⟨g,i,none⟩=some (η (R.getD i 0)):=by
 rw[Aj _ _ _ _ _ _ h];simp[Ad hi]
theorem Row.frozen{g:Nat}{w:Γ}{R:τ}(h:Row g w R)(i:Nat):w.frozen? ⟨g,i,none⟩=false:=AN _ _ _ _ _ h
theorem made_bytes(n:Nat):madeCells #[η 0] n=((List.replicate n (0:Int)).map (Value.int .u8)).toArray:=by
 apply Array.ext';rw[toList_madeCells_one];simp
theorem row_ag{w:Γ}{g n:Nat}{bs:τ}(h:Row g w bs)(a:bs.length=n)(d:∀x∈bs,0<=x/\x<256)(e:n<=9223372036854775807):Ag w (ζ g 0) n n bs:=by
 refine⟨?_,(λh=>by cases h),a,d⟩;by_cases c:n=0
 ·exact .inl ⟨c,Aw (by omega)⟩
 ·exact .inr ⟨g,0,rfl,a,by omega,Ab _,by unfold maxLen;omega,λj b=>by rw[A6];exact h.cell b⟩
theorem info5b:(prog.info? 5).map (λi=>(i.zero,i.size,i.bytes))=some (some (η 0),1,1):=by kernel_rfl
theorem ag_head{w:Γ}{a:Ω}{n c:Nat}{bs:τ}(h:Ag w a n c bs)(l:0<n):∃g off,a=some ⟨g,off,none⟩/\n<=c/\c<=maxLen/\∀j,j<n->w.cell? ⟨g,off+j,none⟩=some (η (bs.getD j 0)):=by
 rcases h.i with⟨m,_⟩|⟨g,off,d,o,k,f,b,e⟩
 ·omega
 ·exact⟨g,off,d,f,b,λj i=>e j (by omega)⟩
theorem cell_alloc{w:Γ}{g off:Nat}{v:Δ}(h:w.cell? ⟨g,off,none⟩=some v):∀o,(w.alloc o).cell? ⟨g,off,none⟩=some v:=λo=>(Av (w:=w) (Ax w _ _ (Al h))).trans h
theorem Xaj{x y:Int}(b:0<=x/\x<256)(a:0<=y/\y<256)(h:UInt8.ofNat x.toNat=UInt8.ofNat y.toNat):x=y:=by
 have e:=Ao UInt8.toNat h;rw[D8,D8,Nat.mod_eq_of_lt (by omega),Nat.mod_eq_of_lt (by omega)]at e;omega
theorem RJ:∀{a b:τ},(∀x∈a,0<=x/\x<256)->(∀x∈b,0<=x/\x<256)->(a.map λn=>UInt8.ofNat n.toNat)=(b.map λn=>UInt8.ofNat n.toNat)->a=b
 |[],[],_,_,_=>rfl
 |[],_::_,_,_,h=>by simp at h
 |_::_,[],_,_,h=>by simp at h
 |x::a,y::b,d,e,h=>by
  rw[Bd,Bd]at h;injection h with g f;rw[Xaj (d x (by simp)) (e y (by simp)) g,RJ (λz c=>d z (Az _ c)) (λz c=>e z (Az _ c)) f]
theorem Vi{a b:τ}(c:∀x∈a,0<=x/\x<256)(d:∀x∈b,0<=x/\x<256):(strOfNums a).toList=(strOfNums b).toList↔a=b:=by
 rw[Go.Lib.strOfNums_toList,Go.Lib.strOfNums_toList];exact⟨RJ c d,λh=>by rw[h]⟩
theorem str_beq{a b:τ}(c:∀x∈a,0<=x/\x<256)(d:∀x∈b,0<=x/\x<256):((strOfNums a).toList==(strOfNums b).toList)=decide (a=b):=by
 by_cases h:a=b
 ·simp[h]
 ·have:¬(strOfNums a).toList=(strOfNums b).toList:=λe=>h ((Vi c d).1 e);simp[h,this]
theorem gen_w{W:Γ}{p q:Γ->Prop}(F:q W)(h:∀v,q v->p v):p W:=h W F
end Ni
end Go.Proofs.YtkdlocloepbmcaaGreat
