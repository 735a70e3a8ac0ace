/- A walk by environments: a frame is known by the slots that were written, no more. -/
import Derived.Test.YtefhepcplempkaaGreatAK
import Derived.Test.YtefhepcplempkaaGreatProg
import Derived.Deep.RegionHeld
import Derived.Deep.LoopGhost
import Derived.Deep.RegionHeld3
import Derived.RangeFuncCalls
import Derived.TacticsIn
import Derived.RangeFuncLeaves
import Derived.KernelRfl
import Derived.Test.YtefhepcplempkaaGreatRows
import Derived.WalkKit
import Derived.WalkSpells
import Derived.WalkLawsBesides
import Derived.BigQuiet
import Derived.Deep.QuietTactic
import Derived.Handy
import Derived.Deep.DrawnRows
import Derived.Laws.CopyOwn
import Derived.Laws.AppendOwnNone
import Derived.Deep.RegionLaw
import Derived.Deep.DeepCutAuto
import Derived.Deep.MidRow
import Derived.RangeFuncNested
import Derived.Maps.RangeRun
import Derived.Deep.WholeRow
import Derived.OrdersIn
set_option linter.unusedVariables false
set_option maxRecDepth 100000
open Go.Proofs.Tryz Go.RowKit
namespace Go.Proofs.YtefhepcplempkaaGreat
variable {ds : List Deferred} {n : Nat} {a : Act} {P : Program} {args : Array Value} {w : World} {F : Fence}
abbrev Env:=List (Nat×Value)
def lkF:Env->(Nat->Value)->Nat->Value
 |[],fb,t=>fb t
 |(d,v)::r,fb,t=>bif Nat.beq d t then v else lkF r fb t
def ev(env:Env)(fb:Nat->Value):Operand->Value
 | .tmp t=>lkF env fb t
 | .const v=>v
 | .global g=> .pointer (some ⟨g,0,none⟩)
 | .func f=> .func (.func f) #[] #[]
structure Frm(ds:List Deferred)(n:Nat)(env:Env)(a:Act):Prop where
 df:a.defers=ds
 sz:a.tmps.size=n
 get:∀t,a.tmps.getD t undef=lkF env (λt=>a.tmps.getD t undef) t
theorem Frm.ev{env:Env}(h:Frm ds n env a):a.eval=Go.Proofs.YtefhepcplempkaaGreat.ev env (λt=>a.tmps.getD t undef):=by
 funext x;cases x with
 |tmp t=>exact h.get t
 |const v=>rfl
 |global g=>rfl
 |func f=>rfl
theorem Fn{env:Env}(h:Frm ds n env a){d:Nat}(hd:d<n)(v:Value):Frm ds n ((d,v)::env) (a.put (some d) v):=by
 refine⟨h.df,by simp[Act.put,h.sz],λt=>?_⟩;have e:∀u,(a.put (some d) v).tmps.getD u undef=if d=u then v else a.tmps.getD u undef:=by
  intro u;have hs:d<a.tmps.size:=by rw[h.sz];exact hd
  simp only[Act.put,C3,D5];by_cases hu:d=u
  ·subst hu;simp[hs]
  ·simp[hu]
 rw[e t];simp only[lkF];by_cases hu:d=t
 ·subst hu;simp
 ·rw[Ae hu];have hb:Nat.beq d t=false:=by
   cases hq:Nat.beq d t with
   |true=>exact absurd (Df hq) hu
   |false=>rfl
  rw[hb];simp only[cond_false];have key:∀(e':Env)(f1 f2:Nat->Value),f1 t=f2 t->lkF e' f1 t=lkF e' f2 t:=by
   intro e' f1 f2 hf
   induction e' with
   |nil=>exact hf
   |cons p r ih=>obtain⟨d',v'⟩:=p;simp only[lkF];rw[ih]
  rw[key env (λu=>(a.put (some d) v).tmps.getD u undef) (λu=>a.tmps.getD u undef) (by simp only[e t,Ae hu])];exact h.get t
def SubE(env:Env):Env->Prop
 |[]=>True
 |p::r=>(∀fb,lkF env fb p.1=p.2)/\SubE env r
theorem Frm.sub{env env':Env}(h:Frm ds n env a)(hs:SubE env env'):Frm ds n env' a:=by
 refine⟨h.df,h.sz,λt=>?_⟩;have key:∀(e:Env),SubE env e->a.tmps.getD t undef=lkF e (λt=>a.tmps.getD t undef) t:=by
  intro e
  induction e with
  |nil=>intro _;rfl
  |cons p r ih=>
   intro hs;obtain⟨d,v⟩:=p;simp only[lkF];cases hq:Nat.beq d t with
   |false=>simpa using ih hs.2
   |true=>
    have:=Df hq;subst this;simp only[cond_true];rw[h.get d];exact hs.1 _
 exact key env' hs
def yF(ops:Array Oper)(env:Env)(fb:Nat->Value)(j:Nat):Option Bool:=
 match(ops[j]?).bind (·.dst)with
 |some d=>match lkF env fb d with
  | .bool b=>some b
  |_=>none
 |none=>none
theorem Frm.yielded{ds:List Deferred}{n:Nat}{env:Env}{a:Act}(h:Frm ds n env a)(ops:Array Oper)(j:Nat):Go.yielded ops a.tmps j=yF ops env (λt=>a.tmps.getD t undef) j:=by
 unfold Go.yielded yF;cases(ops[j]?).bind (·.dst)with
 |none=>rfl
 |some d=>
  have hg:=h.get d;simp only[Option.bind_some];rw[<-hg];rw[C3];cases a.tmps[d]? with
  |none=>rfl
  |some v=>cases v<;>rfl
def noDefer(o:Oper):Bool:=match o.op with| .defer _=>false|_=>true
theorem EE{o:Oper}(h:noDefer o=true):∀c,o.op≠ .defer c:=by
 intro c e;unfold noDefer at h;rw[e]at h;cases h
def chk(n:Nat)(ops:Array Oper)(env:Env)(fb:Nat->Value)(o:Oper)(d:Nat):Bool:=
 (o.dst==some d)&&Nat.blt d n&&Region.wanted o (yF ops env fb)&&noDefer o
def chk0(ops:Array Oper)(env:Env)(fb:Nat->Value)(o:Oper):Bool:=
 (o.dst==none)&&Region.wanted o (yF ops env fb)&&noDefer o
def off(n:Nat)(ops:Array Oper)(env:Env)(fb:Nat->Value)(o:Oper)(d:Nat):Bool:=
 (o.dst==some d)&&Nat.blt d n&&!Region.wanted o (yF ops env fb)
theorem Fe{n:Nat}{ops:Array Oper}{env:Env}{fb:Nat->Value}{o:Oper}{d:Nat}(h:chk n ops env fb o d=true):o.dst=some d/\d<n/\Region.wanted o (yF ops env fb)=true/\∀c,o.op≠ .defer c:=by
 unfold chk at h;simp only[BN,D6]at h;exact⟨h.1.1.1,by simpa[EW]using h.1.1.2,h.1.2,EE h.2⟩
theorem M6{ops:Array Oper}{env:Env}{fb:Nat->Value}{o:Oper}(h:chk0 ops env fb o=true):o.dst=none/\Region.wanted o (yF ops env fb)=true/\∀c,o.op≠ .defer c:=by
 unfold chk0 at h;simp only[BN,D6]at h;exact⟨h.1.1,h.1.2,EE h.2⟩
theorem O1{n:Nat}{ops:Array Oper}{env:Env}{fb:Nat->Value}{o:Oper}{d:Nat}(h:off n ops env fb o d=true):o.dst=some d/\d<n/\Region.wanted o (yF ops env fb)=false:=by
 unfold off at h;simp only[BN,D6,Bool.not_eq_true']at h;exact⟨h.1.1,by simpa[EW]using h.1.2,h.2⟩
theorem Frm.want{ds:List Deferred}{n:Nat}{env:Env}{a:Act}(h:Frm ds n env a)(ops:Array Oper)(o:Oper):Region.wanted o (Go.yielded ops a.tmps)=Region.wanted o (yF ops env (λt=>a.tmps.getD t undef)):=by
 have:Go.yielded ops a.tmps=yF ops env (λt=>a.tmps.getD t undef):=funext λj=>h.yielded ops j;rw[this]
def fz(r:Option Nat):Fence:={Fence.wide with round:=r}
theorem callsIn_fz{r:Option Nat}{m:Nat}{f:FuncId}{R:Ending->World->Prop}:CallsIn (fz r) m P f args w R↔Calls P f args w R:=Fk (n:=m)
theorem CallsIn.mono'{f:FuncId}{R R':Ending->World->Prop}(h:CallsIn F n P f args w R)(hr:∀e w',R e w'->R' e w'):CallsIn F n P f args w R':=
 ⟨h.1,λcs hroom=>let⟨e,w',fr,q,s⟩:=h.2 cs hroom;⟨e,w',fr,hr _ _ q,s⟩⟩
theorem Hg{Q:Exit->Act->World->Prop}{c:Code}(I:Nat->Act->World->Prop)(n₀:Nat)(h₀:I n₀ a w)
 (round:∀k a w,I k a w->c.wpIn F n P (Exit.then (λa' w'=>∃k',k'<k/\I k' a' w') Q) a w):(Code.loop c).wpIn F n P Q a w:=by
 refine wpIn_loop (λa w=>∃n,I n a w) (λa w=>leastOf (λn=>I n a w)) ⟨n₀,h₀⟩ ?_;intro a w hI;refine wpIn_mono (round _ a w (leastOf_spec hI).1) ?_;intro e a' w' hq;cases e with
 |normal=>
  obtain⟨n',hlt,hI'⟩:=hq;exact show(∃n,I n a' w')/\leastOf (λn=>I n a' w')<leastOf (λn=>I n a w)from⟨⟨n',hI'⟩,Nat.lt_of_le_of_lt ((leastOf_spec ⟨n',hI'⟩).2 n' hI') hlt⟩
 |exit id=>exact hq
 |goto l=>exact hq
 |ret=>exact hq
 |panic ch=>exact hq
 |outgrown=>exact hq
section
variable {r : Option Nat} {m : Nat} {P : Program} {ds : List Deferred} {n : Nat} {Q : Exit → Act → World → Prop} {env : Env} {w : World}
def NW(ds:List Deferred)(n:Nat)(Q:Exit->Act->World->Prop)(e:Exit)(env:Env)(w:World):Prop:=∀a,Frm ds n env a->Q e a w
def CW(r:Option Nat)(m:Nat)(P:Program)(ds:List Deferred)(n:Nat)(Q:Exit->Act->World->Prop)(c:Code)(env:Env)(w:World):Prop:=∀a,Frm ds n env a->c.wpIn (fz r) m P Q a w
def RW(r:Option Nat)(m:Nat)(P:Program)(ds:List Deferred)(n:Nat)(Q:Exit->Act->World->Prop)(ops:Array Oper)(l:List Oper)(env:Env)(w:World):Prop:=∀a,Frm ds n env a->wpListIn (fz r) m P ops Q l a w
def DW(P:Program)(ds:List Deferred)(n:Nat)(Q:Exit->Act->World->Prop)(ops:Array Oper)(S:World->Prop)(fuel:Nat)(listed:Array Bool)(env:Env)(w:World):Prop:=∀a,Frm ds n env a->wpAnyH P .any ops Q S fuel listed a w
def AR(P:Program)(ds:List Deferred)(n:Nat)(Q:Exit->Act->World->Prop)(ops:Array Oper)(S:World->Prop)(fuel:Nat)(listed:Array Bool)(env:Env)(w:World)(rs:List Nat):Prop:=∀a,Frm ds n env a->AllReadyH P .any ops Q S fuel listed a w rs
theorem Um(env':Env){c:Code}(hs:SubE env env')(h:CW r m P ds n Q c env' w):CW r m P ds n Q c env w:=λa ha=>h a (ha.sub hs)
theorem A5{x y:Code}(h:CW r m P ds n (Exit.then (y.wpIn (fz r) m P Q) Q) x env w):CW r m P ds n Q (.seq x y) env w:=λa ha=>wpIn_seq (h a ha)
theorem Av{y:Code}(h:CW r m P ds n Q y env w):NW ds n (Exit.then (y.wpIn (fz r) m P Q) Q) .normal env w:=h
theorem El{id:Nat}(h:NW ds n Q .normal env w):NW ds n (Exit.inBlock id Q) .normal env w:=h
theorem CN(h:NW ds n Q .normal env w):CW r m P ds n Q .skip env w:=λa ha=>wpIn_skip (h a ha)
theorem Un{l:Nat}(h:NW ds n Q .normal env w):CW r m P ds n Q (.label l) env w:=λa ha=>wpIn_label (h a ha)
theorem It{id:Nat}(h:NW ds n Q (.exit id) env w):CW r m P ds n Q (.exit id) env w:=λa ha=>wpIn_exit (h a ha)
theorem CO{id:Nat}{K:Act->World->Prop}(h:NW ds n Q (.exit id) env w):NW ds n (Exit.then K Q) (.exit id) env w:=h
theorem EF{id:Nat}(h:NW ds n Q .normal env w):NW ds n (Exit.inBlock id Q) (.exit id) env w:=λa ha=>by
 show if id=id then Q .normal a w else Q (.exit id) a w
 rw[Ai rfl];exact h a ha
theorem Ea{id:Nat}{c:Code}(h:CW r m P ds n (Exit.inBlock id Q) c env w):CW r m P ds n Q (.block id c) env w:=λa ha=>wpIn_block (h a ha)
theorem D7(h:NW ds n Q .ret env w):CW r m P ds n Q .ret env w:=λa ha=>wpIn_ret (h a ha)
theorem CT{K:Act->World->Prop}(h:NW ds n Q .ret env w):NW ds n (Exit.then K Q) .ret env w:=h
theorem EG{id:Nat}(h:NW ds n Q .ret env w):NW ds n (Exit.inBlock id Q) .ret env w:=h
theorem CY{c:Operand}{x y:Code}(hc:∀fb,ev env fb c= .bool true)(h:CW r m P ds n Q x env w):CW r m P ds n Q (.cond c x y) env w:=λa ha=>wpIn_cond_true (by rw[ha.ev];exact hc _) (h a ha)
theorem Cb{c:Operand}{x y:Code}(hc:∀fb,ev env fb c= .bool false)(h:CW r m P ds n Q y env w):CW r m P ds n Q (.cond c x y) env w:=λa ha=>wpIn_cond_false (by rw[ha.ev];exact hc _) (h a ha)
theorem Je{c:Code}{X:Type}(E:X->Env)(R:X->World->Prop)(μ:X->Nat)(x0:X)(hE:SubE env (E x0))(h0:R x0 w)
 (round:∀x v,R x v->CW r m P ds n (Exit.then (λa' w'=>∃k,k<μ x/\∃x',μ x'=k/\Frm ds n (E x') a'/\R x' w') Q) c (E x) v):CW r m P ds n Q (.loop c) env w:=λa ha=>by
 refine Hg (λk a w=>∃x,μ x=k/\Frm ds n (E x) a/\R x w) (μ x0) ⟨x0,rfl,ha.sub hE,h0⟩ ?_;rintro k a v⟨x,rfl,hF,hR⟩;exact round x v hR a hF
theorem FY{X:Type}{E:X->Env}{R:X->World->Prop}{μ:X->Nat}{x:X}(x':X)(hE:SubE env (E x'))(hR:R x' w)(hm:μ x'<μ x):
 NW ds n (Exit.then (λa' w'=>∃k,k<μ x/\∃x',μ x'=k/\Frm ds n (E x') a'/\R x' w') Q) .normal env w:=λa ha=>⟨μ x',hm,x',rfl,ha.sub hE,hR⟩
theorem PK{c:Code}(F:Env->World->Prop)(h1:CW r m P ds n (Exit.then (λa w=>∃e,Frm ds n e a/\F e w) Q) c env w)(h2:∀e w',F e w'->NW ds n Q .normal e w'):CW r m P ds n Q c env w:=λa ha=>by
 refine wpIn_mono (h1 a ha) ?_;intro e a' w' hq;cases e with
 |normal=>obtain⟨e',hF,hw⟩:=hq;exact h2 e' w' hw a' hF
 |exit id=>exact hq
 |goto l=>exact hq
 |ret=>exact hq
 |panic ch=>exact hq
 |outgrown=>exact hq
theorem IJ{F:Env->World->Prop}(e':Env)(hs:SubE env e')(h:F e' w):NW ds n (Exit.then (λa w=>∃e,Frm ds n e a/\F e w) Q) .normal env w:=λa ha=>⟨e',ha.sub hs,h⟩
def argE:Nat->List Value->Env
 |_,[]=>[]
 |k,v::r=>(k,v)::argE (k+1) r
theorem Rs(args:Array Value)(k:Nat):Frm [] (args++Array.replicate k undef).size (argE 0 args.toList) {tmps:=args++Array.replicate k undef,defers:=[]}:=by
 refine⟨rfl,rfl,λt=>?_⟩;have key:∀(l:List Value)(i:Nat)(fb:Nat->Value),(∀j,l[j]?.isSome->fb (i+j)=(l[j]?).getD undef)->∀t,fb t=lkF (argE i l) fb t:=by
  intro l
  induction l with
  |nil=>intro i fb _ t;rfl
  |cons v r ih=>
   intro i fb h t;simp only[argE,lkF];cases hq:Nat.beq i t with
   |true=>
    have:=Df hq;subst this;simpa using h 0 (by simp)
   |false=>
    simp only[cond_false];refine ih (i+1) fb (λj hj=>?_) t;have:=h (j+1) (by simpa using hj);rw[show i+1+j=i+(j+1)from by omega];simpa using this
 refine key args.toList 0 (λt=>(args++Array.replicate k undef).getD t undef) (λj hj=>?_) t;have hj':j<args.size:=by
  rw[Option.isSome_iff_exists]at hj;obtain⟨v,hv⟩:=hj;simpa using(Aw.1 hv).1
 simp only[AM,C3,Array.getElem?_append_left hj',Co]
theorem PL{f:FuncId}{fn:Func}{c:Code}{args:Array Value}{R:Ending->World->Prop}(hf:P.funcs[f]?=some fn)(hb:fn.body=some c)(n:Nat)(hn:args.size+(fn.ntmps-args.size)=n)
 (h:CW none m P [] n (bodyPost P fn R) c (argE 0 args.toList) w):CallsIn Fence.wide m P f args w R:=by
 refine callsIn_of_wp hf hb trivial<|h _ ?_;have:=Rs args (fn.ntmps-args.size);rw[show(args++Array.replicate (fn.ntmps-args.size) undef).size=n from by simp[hn]]at this;exact this
theorem CV{f:FuncId}{fn:Func}{c:Code}{args:Array Value}{R:Ending->World->Prop}(hf:P.funcs[f]?=some fn)(hb:fn.body=some c)(n:Nat)(hn:args.size+(fn.ntmps-args.size)=n)
 (h:CW none 20 P [] n (bodyPost P fn R) c (argE 0 args.toList) w):Calls P f args w R:=Fk.1 (PL hf hb n hn h)
theorem O2{f:FuncId}{fn:Func}{c:Code}{args:Array Value}{R:Ending->World->Prop}(hf:P.funcs[f]?=some fn)(hb:fn.body=some c)(n:Nat)(hn:args.size+(fn.ntmps-args.size)=n)
 (h:CW none m P [] n (bodyPostM Fence.wide m P fn R) c (argE 0 args.toList) w):CallsIn Fence.wide m P f args w R:=by
 refine callsIn_of_wp_marks hf hb trivial<|h _ ?_;have:=Rs args (fn.ntmps-args.size);rw[show(args++Array.replicate (fn.ntmps-args.size) undef).size=n from by simp[hn]]at this;exact this
theorem SH{f:FuncId}{fn:Func}{c:Code}{args:Array Value}{R:Ending->World->Prop}(hf:P.funcs[f]?=some fn)(hb:fn.body=some c)(n:Nat)(hn:args.size+(fn.ntmps-args.size)=n)
 (h:CW none 20 P [] n (bodyPostM Fence.wide 20 P fn R) c (argE 0 args.toList) w):Calls P f args w R:=Fk.1 (O2 hf hb n hn h)
def resF(g:Nat->Value)(rs:Array ResultVar):Sem Value:=do
 let vs <-rs.mapM λ
  | .tmp t=>pure (g t)
  | .cell a t=>do loadVar t (<-asAddr (g a))
 pure (if h:vs.size=1 then vs[0]else .tuple vs)
theorem Ff(fn:Func)(tmps:Array Value):results fn tmps=resF (λt=>tmps.getD t undef) fn.results:=rfl
theorem BU{fn:Func}{R:Ending->World->Prop}(v:Value)(hr:∀fb,(resF (lkF env fb) fn.results).run P w= .ok v w)(hR:R (.returned v) w):NW [] n (bodyPost P fn R) .ret env w:=λa ha=>by
 refine⟨ha.df,v,?_,hR⟩;rw[Ff,show(λt=>a.tmps.getD t undef)=lkF env (λt=>a.tmps.getD t undef)from funext ha.get];exact hr _
theorem Kq{fn:Func}{R:Ending->World->Prop}(v:Value)(hr:∀fb,(resF (lkF env fb) fn.results).run P w= .ok v w)(hR:R (.returned v) w):NW [] n (bodyPost P fn R) .normal env w:=λa ha=>by
 refine⟨ha.df,v,?_,hR⟩;rw[Ff,show(λt=>a.tmps.getD t undef)=lkF env (λt=>a.tmps.getD t undef)from funext ha.get];exact hr _
end
section
variable {r : Option Nat} {m : Nat} {P : Program} {ds : List Deferred} {n : Nat} {Q : Exit → Act → World → Prop} {env : Env} {w w' : World} {ops : Array Oper} {l : List Oper} {o : Oper}
theorem Ao{id:Nat}(h:RW r m P ds n Q l.toArray l env w):CW r m P ds n Q (.region id l.toArray false) env w:=λa ha=>wpIn_region_lit (h a ha)
theorem AK(h:NW ds n Q .normal env w):RW r m P ds n Q ops [] env w:=h
theorem Ln(d:Nat)(v:Value)(hc:∀fb,chk n ops env fb o d=true)(hr:∀fb,(execOp (ev env fb) o).run P w= .ok (.value v) w')(h:RW r m P ds n Q ops l ((d,v)::env) w'):RW r m P ds n Q ops (o::l) env w:=λa ha=>by
 obtain⟨h1,h2,h3,hnd⟩:=Fe (hc (λt=>a.tmps.getD t undef));refine DY λK hK=>?_;rw[ha.want,Ai h3];refine⟨λf _=>trivial,?_⟩;rw[CK _ _ _ hnd,ha.ev,hr,Oper.uponIn_value,h1];exact hK _ _ (h _ (Fn ha h2 v))
theorem Zr(d:Nat)(v:Value)(hc:∀fb,chk n ops env fb o d=true)(hr:∀fb,(execOp (ev env fb) o).run P w= .ok (.value v) w)(h:RW r m P ds n Q ops l ((d,v)::env) w):RW r m P ds n Q ops (o::l) env w:=Ln d v hc hr h
theorem Zs(hc:∀fb,chk0 ops env fb o=true)(hr:∀fb,(execOp (ev env fb) o).run P w= .ok .skip w')(h:RW r m P ds n Q ops l env w'):RW r m P ds n Q ops (o::l) env w:=λa ha=>by
 obtain⟨h1,h3,hnd⟩:=M6 (hc (λt=>a.tmps.getD t undef));refine DY λK hK=>?_;rw[ha.want,Ai h3];refine⟨λf _=>trivial,?_⟩;rw[CK _ _ _ hnd,ha.ev,hr,Oper.uponIn_skip,h1];exact hK _ _ (h _ ha)
theorem Cg(d:Nat)(hc:∀fb,off n ops env fb o d=true)(h:RW r m P ds n Q ops l ((d,undef)::env) w):RW r m P ds n Q ops (o::l) env w:=λa ha=>by
 obtain⟨h1,h2,h3⟩:=O1 (hc (λt=>a.tmps.getD t undef));refine DY λK hK=>?_;rw[ha.want,Ae (by rw[h3];exact Cv),h1];refine⟨λf _=>trivial,?_⟩;exact hK _ _ (h _ (Fn ha h2 _))
theorem BH(d:Nat)(f:FuncId)(args:Array Value)(hc:∀fb,chk n ops env fb o d=true)(hr:∀fb,(execOp (ev env fb) o).run P w= .ok (.enter f args) w){R:Value->World->Prop}
 (hcall:Calls P f args w λe w'=>∃v,e= .returned v/\R v w') (h:∀v w',R v w'->RW r m P ds n Q ops l ((d,v)::env) w'):RW r m P ds n Q ops (o::l) env w:=λa ha=>by
 obtain⟨h1,h2,h3,hnd⟩:=Fe (hc (λt=>a.tmps.getD t undef));refine DY λK hK=>?_;rw[ha.want,Ai h3];refine⟨λf _=>trivial,?_⟩;rw[CK _ _ _ hnd,ha.ev,hr,Oper.uponIn_enter];refine⟨λh=>absurd h Cv,?_⟩;refine CallsIn.mono' (callsIn_fz.2 hcall) ?_;rintro e w'⟨v,rfl,hR⟩;rw[h1];exact hK _ _ (h v w' hR _ (Fn ha h2 v))
end
section
variable {r : Option Nat} {m : Nat} {P : Program} {ds : List Deferred} {n : Nat} {Q : Exit → Act → World → Prop} {env : Env} {w w' : World} {ops : Array Oper} {o : Oper} {S : World → Prop} {fuel : Nat} {listed : Array Bool} {rs : List Nat}
theorem Gn{id:Nat}(S:World->Prop)(hm:P.follows .mixedOrders=true)(hS:S w.drew)(h:DW P ds n Q ops S ops.size (Array.replicate ops.size false) env w.drew):CW none m P ds n Q (.region id ops true) env w:=λa ha=>
 wpIn_wide.2 (BZ hm hS (λ_=>h a ha))
def tkOk(ops:Array Oper)(listed:Array Bool)(i:Nat):Bool:=Region.noSelect ops&&Region.free .any ops listed i&&(Region.ready .any ops listed).contains i
theorem WE(i d:Nat)(v:Value)(ho:ops[i]?=some o)(hk:tkOk ops listed i=true)(hQ:∀c a w,Q (.panic c) (a.put (some d) v) w->Q (.panic c) a w)(hc:∀fb,chk n ops env fb o d=true)
 (hr:∀w,S w->∀fb,(execOp (ev env fb) o).run P w= .ok (.value v) w) (hS:S w) (h:DW P ds n Q ops S fuel (listed.setIfInBounds i true) ((d,v)::env) w):DW P ds n Q ops S (fuel+1) listed env w:=λa ha=>by
 obtain⟨h1,h2,h3,_⟩:=Fe (hc (λt=>a.tmps.getD t undef));unfold tkOk at hk;simp only[BN]at hk;refine wpAnyH_take ho hk.1.1 hk.1.2 hk.2 (v:=v) (by rw[h1];exact hQ) (Or.inl ⟨by rw[ha.want];exact h3,λw hw=>by rw[ha.ev];exact hr w hw _⟩) hS ?_;rw[h1];exact h _ (Fn ha h2 v)
theorem Yt(i d:Nat)(ho:ops[i]?=some o)(hk:tkOk ops listed i=true)(hQ:∀c a w,Q (.panic c) (a.put (some d) undef) w->Q (.panic c) a w)(hc:∀fb,off n ops env fb o d=true)
 (hS:S w) (h:DW P ds n Q ops S fuel (listed.setIfInBounds i true) ((d,undef)::env) w):DW P ds n Q ops S (fuel+1) listed env w:=λa ha=>by
 obtain⟨h1,h2,h3⟩:=O1 (hc (λt=>a.tmps.getD t undef));unfold tkOk at hk;simp only[BN]at hk;refine wpAnyH_take ho hk.1.1 hk.1.2 hk.2 (v:=undef) (by rw[h1];exact hQ) (Or.inr ⟨by rw[ha.want];exact h3,rfl⟩) hS ?_;rw[h1];exact h _ (Fn ha h2 _)
theorem Fg(hr:Region.ready .any ops listed=[])(h:NW ds n Q .normal env w):DW P ds n Q ops S fuel listed env w:=λa ha=>Ck hr (h a ha) fuel
theorem CI(rs:List Nat)(hr:Region.ready .any ops listed=rs)(hne:rs≠[])(h:AR P ds n Q ops S fuel listed env w rs):DW P ds n Q ops S (fuel+1) listed env w:=λa ha=>AF hr hne (h a ha)
theorem DR:AR P ds n Q ops S fuel listed env w []:=λa ha=>AB
theorem PO(i d:Nat)(v:Value)(ho:ops[i]?=some o)(hc:∀fb,chk n ops env fb o d=true)(hr:∀fb,(execOp (ev env fb) o).run P w= .ok (.value v) w')(hS:S w')
 (h:DW P ds n Q ops S fuel (listed.setIfInBounds i true) ((d,v)::env) w') (hs:AR P ds n Q ops S fuel listed env w rs):AR P ds n Q ops S fuel listed env w (i::rs):=λa ha=>by
 obtain⟨h1,h2,h3,_⟩:=Fe (hc (λt=>a.tmps.getD t undef));refine CL ho (λK hK=>?_) (hs a ha);rw[ha.want,Ai h3];unfold Oper.wp;rw[ha.ev,hr,ES,h1];exact hK _ _ hS (λ_=>h _ (Fn ha h2 v))
theorem Yu(i:Nat)(ho:ops[i]?=some o)(hc:∀fb,chk0 ops env fb o=true)(hr:∀fb,(execOp (ev env fb) o).run P w= .ok .skip w')(hS:S w')
 (h:DW P ds n Q ops S fuel (listed.setIfInBounds i true) env w') (hs:AR P ds n Q ops S fuel listed env w rs):AR P ds n Q ops S fuel listed env w (i::rs):=λa ha=>by
 obtain⟨h1,h3,_⟩:=M6 (hc (λt=>a.tmps.getD t undef));refine CL ho (λK hK=>?_) (hs a ha);rw[ha.want,Ai h3];unfold Oper.wp;rw[ha.ev,hr,Fl,h1];exact hK _ _ hS (λ_=>h _ ha)
theorem Gp(i d:Nat)(f:FuncId)(args:Array Value)(ho:ops[i]?=some o)(hc:∀fb,chk n ops env fb o d=true)(hr:∀fb,(execOp (ev env fb) o).run P w= .ok (.enter f args) w){R:Value->World->Prop}
 (hcall:Calls P f args w λe w'=>∃v,e= .returned v/\R v w') (hSS:∀v w',R v w'->S w') (h:∀v w',R v w'->DW P ds n Q ops S fuel (listed.setIfInBounds i true) ((d,v)::env) w')
 (hs:AR P ds n Q ops S fuel listed env w rs):AR P ds n Q ops S fuel listed env w (i::rs):=λa ha=>by
 obtain⟨h1,h2,h3,_⟩:=Fe (hc (λt=>a.tmps.getD t undef));refine CL ho (λK hK=>?_) (hs a ha);rw[ha.want,Ai h3];unfold Oper.wp;rw[ha.ev,hr,ET];refine hcall.mono ?_;rintro e w'⟨v,rfl,hR⟩;rw[h1];exact hK _ _ (hSS v w' hR) (λ_=>h v w' hR _ (Fn ha h2 v))
end
end Go.Proofs.YtefhepcplempkaaGreat
namespace Go.Proofs.YtefhepcplempkaaGreat
variable {g base : Nat} {b w0 w w' : World} {a : Option Addr}
section
variable {r : Option Nat} {m : Nat} {P : Program} {ds : List Deferred} {n : Nat} {Q : Exit → Act → World → Prop} {env : Env} {w : World} {ops : Array Oper} {l : List Oper} {o : Oper} {S : World → Prop} {fuel : Nat} {listed : Array Bool}
theorem rp(d:Nat)(v:Value)(h:RW r m P ds n Q ops l ((d,v)::env) w)(hc:∀fb,chk n ops env fb o d=true:=by intro _;kernel_rfl)(hr:∀fb,(execOp (ev env fb) o).run P w= .ok (.value v) w:=by intro _;kernel_rfl):RW r m P ds n Q ops (o::l) env w:=Zr d v hc hr h
theorem rv(d:Nat)(v:Value)(hr:∀fb,(execOp (ev env fb) o).run P w= .ok (.value v) w)(h:RW r m P ds n Q ops l ((d,v)::env) w)(hc:∀fb,chk n ops env fb o d=true:=by intro _;kernel_rfl):RW r m P ds n Q ops (o::l) env w:=Zr d v hc hr h
theorem dt(i d:Nat)(v:Value)(hr:∀w,S w->∀fb,(execOp (ev env fb) o).run P w= .ok (.value v) w)(hS:S w)(h:DW P ds n Q ops S fuel (listed.setIfInBounds i true) ((d,v)::env) w)(ho:ops[i]?=some o:=by rfl)(hk:tkOk ops listed i=true:=by kernel_rfl)(hQ:∀c a w,Q (.panic c) (a.put (some d) v) w->Q (.panic c) a w:=by exact λ_ _ _ h=>h)(hc:∀fb,chk n ops env fb o d=true:=by intro _;kernel_rfl):DW P ds n Q ops S (fuel+1) listed env w:=WE i d v ho hk hQ hc hr hS h
theorem df(i d:Nat)(hS:S w)(h:DW P ds n Q ops S fuel (listed.setIfInBounds i true) ((d,undef)::env) w)(ho:ops[i]?=some o:=by rfl)(hk:tkOk ops listed i=true:=by kernel_rfl)(hQ:∀c a w,Q (.panic c) (a.put (some d) undef) w->Q (.panic c) a w:=by exact λ_ _ _ h=>h)(hc:∀fb,off n ops env fb o d=true:=by intro _;kernel_rfl):DW P ds n Q ops S (fuel+1) listed env w:=Yt i d ho hk hQ hc hS h
end
theorem ZQ{p:Prop}(h:p):Hid p:=h
theorem lt_of_get{α:Type}{xs:Array α}{i:Nat}{x:α}(h:xs[i]?=some x):i<xs.size:=(BV.1 h).1
theorem Below.row{W w1:World}(hb:Below W.heap.size W w1){o:Obj}(h:W.heap[g]?=some o):w1.heap[g]?=some o:=(hb.block g (lt_of_get h)).trans h
structure Touch(g:Nat)(w w':World):Prop where
 os:w'.os=w.os
 tape:w'.tape=w.tape
 output:w'.output=w.output
 size:w.heap.size<=w'.heap.size
 block:∀k,k<w.heap.size->k≠g->w'.heap[k]?=w.heap[k]?
theorem Touch.refl(g:Nat)(w:World):Touch g w w:=⟨rfl,rfl,rfl,Aa _,λ_ _ _=>rfl⟩
theorem Touch.trans{a c:World}(h:Touch g a b)(k:Touch g b c):Touch g a c:=
 ⟨k.os.trans h.os,k.tape.trans h.tape,k.output.trans h.output,Ar h.size k.size,λi hi hg=>(k.block i (B7 hi h.size) hg).trans (h.block i hi hg)⟩
theorem Touch.of_below{a:World}(h:Below a.heap.size a b):Touch g a b:=⟨h.os,h.tape,h.output,h.size,λi hi _=>h.block i hi⟩
theorem Touch.setCell(g:Nat)(w:World)(o:Nat)(v:Value):Touch g w (w.setCell ⟨g,o,none⟩ v):=⟨rfl,rfl,rfl,by simp,λk _ hk=>AC _ _ _ _ hk⟩
theorem Touch.setRow(g:Nat)(w:World)(C:Array Value):Touch g w (w.setRow g C):=⟨rfl,rfl,rfl,by simp,λk _ hk=>Bf _ _ _ _ hk⟩
theorem Touch.drew(g:Nat)(w:World):Touch g w w.drew:=⟨rfl,rfl,rfl,Aa _,λ_ _ _=>rfl⟩
theorem Touch.below{N:Nat}(h:Below N w0 w)(t:Touch g w w')(hN:N<=g)(hs:N<=w.heap.size):Below N w0 w':=
 h.trans ⟨t.os,t.tape,t.output,t.size,λk hk=>t.block k (by omega) (by omega)⟩
theorem B8_one2(bs:List Int):∀v∈bs.map (Value.int .u8),v.oneCell'=true:=by
 intro v hv;obtain⟨x,_,rfl⟩:=BD.1 hv;rfl
def OwnB(w:World)(base:Nat)(v:Value)(bs:List Int):Prop:=w.ownsRow base 5 1 v bs.length (bs.map (Value.int .u8))
theorem info5:∃i,prog.info? 5=some i/\i.zero=some (.int .u8 0)/\i.size=1/\i.bytes=1:=by
 have h:(prog.info? 5).map (λi=>(i.zero,i.size,i.bytes))=some (some (.int .u8 0),1,1):=by kernel_rfl
 cases hq:prog.info? 5 with
 |none=>rw[hq]at h;simp at h
 |some i=>rw[hq]at h;simp at h;exact⟨i,rfl,h.1,h.2.1,h.2.2⟩
theorem app_own{w:World}{ops:Array Oper}{rest:List Oper}{o:Oper}{a:Act}{Q:Exit->Act->World->Prop}(hgd:o.guard=none)(s x:Operand)
 (ho:o.op= .call {callee:= .builtin .append,args:=#[s,x],argTypes:=#[23,23]}) (base:Nat) (v:Value) (bs:List Int) (hs:a.eval s=v) (hown:OwnB w base v bs)
 (ad:Addr) (m c:Nat) (news:List Int) (hx:a.eval x= .slice (some ad) m c) (hl:news.length=m) (hnews:∀j u,(news.map (Value.int .u8))[j]?=some u->w.cell? (ad.add j)=some u)
 (hbytes:bs.length+m<=140737488355328) (hbase:base<=w.heap.size)
 (h:∀v' w',OwnB w' base v' (bs++news)->w.grownBy w' v.ownBlock->(v'= .slice none 0 0↔v= .slice none 0 0/\m=0)->wpList prog ops Q rest (a.put o.dst v') w'):wpList prog ops Q (o::rest) a w:=by
 obtain⟨i,hi,hz,hsz,hby⟩:=info5;refine wpList_append_own w hgd s x 23 ho base 5 i (.int .u8 0) 1 1 underlying23 hi hz hsz hby rfl (by decide) v bs.length (bs.map (Value.int .u8)) hs hown ad m c (news.map (Value.int .u8)) hx (by simpa using hl) hnews (B8_one2 _) (by unfold maxLen;omega) (by omega) hbase ?_;intro v' w' h1 h2 h3;refine h v' w' ?_ h2 h3;unfold OwnB;rw[Ab,hl,BB];exact h1
theorem app_none{w:World}{ops:Array Oper}{rest:List Oper}{o:Oper}{a:Act}{Q:Exit->Act->World->Prop}(hgd:o.guard=none)(s x:Operand)
 (ho:o.op= .call {callee:= .builtin .append,args:=#[s,x],argTypes:=#[23,23]}) (base:Nat) (v:Value) (bs:List Int) (hs:a.eval s=v) (hown:OwnB w base v bs)
 (hx:a.eval x= .slice none 0 0) (h:wpList prog ops Q rest (a.put o.dst v) w):wpList prog ops Q (o::rest) a w:=by
 obtain⟨i,hi,_,_,_⟩:=info5;exact wpList_append_own_none hgd s x 23 ho base 5 i 1 underlying23 hi v bs.length _ hs hown hx h
def InB(w:World)(a:Option Addr)(len cap:Nat)(bs:List Int):Prop:=
 (a=none/\len=0/\cap=0/\bs=[])∨∃ad,a=some ad/\bs.length=len/\∀j u,(bs.map (Value.int .u8))[j]?=some u->w.cell? (ad.add j)=some u
theorem OwnB.slice{v:Value}{bs:List Int}(h:OwnB w base v bs)(hne:0<bs.length):
 ∃g cap,v= .slice (some ⟨g,0,none⟩) bs.length cap/\base<=g/\g<w.heap.size/\bs.length<=cap/\cap<=maxLen/\∀j,j<bs.length->w.cell? ⟨g,j,none⟩=some (.int .u8 (bs.getD j 0)):=by
 obtain⟨_,h2⟩:=h;rcases h2 with⟨_,h2⟩|⟨g,cap,cur,hv,hg,hh,hn,hcap,hsz,ht⟩
 ·omega
 ·refine⟨g,cap,hv,hg,lt_of_get hh,hn,hcap,?_⟩;intro j hj;rw[Ad w g j _ _ _ hh];have e:(cur.toList.take (bs.length*1))[j]?=(bs.map (Value.int .u8))[j]?:=by rw[ht]
  rw[AO (by omega)]at e;simp at e;rw[e];simp[Ac hj]
theorem OwnB.alloc{v:Value}{bs:List Int}(h:OwnB w base v bs)(o:Obj):OwnB (w.alloc o) base v bs:=World.ownsRow.alloc h o
theorem OwnB.new(w:World):OwnB (w.alloc (.cells #[] 5)) w.heap.size (.slice (some ⟨w.heap.size,0,none⟩) 0 0) []:=
 ⟨rfl, .inr ⟨w.heap.size,0,#[],rfl,Aa _,Aj _ _,Aa _,by unfold maxLen;omega,rfl,rfl⟩⟩
theorem OwnB.lt{v:Value}{bs:List Int}(h:OwnB w base v bs):∀k,v.ownBlock=some k->base<=k:=λk hk=>(World.ownsRow.lt h k hk).1
theorem one_new(w:World)(x:Int):∀j u,([x].map (Value.int .u8))[j]?=some u->(w.alloc (.cells #[.int .u8 x] 5)).cell? ((⟨w.heap.size,0,none⟩:Addr).add j)=some u:=by
 intro j u h;cases j with
 |zero=>
  simp at h;subst h;rw[show(⟨w.heap.size,0,none⟩:Addr).add 0=⟨w.heap.size,0,none⟩from rfl,Ad _ _ _ _ _ _ (Aj w _)];rfl
 |succ j=>simp at h
theorem InB.alloc{len cap:Nat}{bs:List Int}(h:InB w a len cap bs)(o:Obj):InB (w.alloc o) a len cap bs:=by
 rcases h with h|⟨ad,h1,h2,h3⟩
 ·exact .inl h
 ·exact .inr ⟨ad,h1,h2,λj u hu=>(Ay (w:=w) (Az w _ _ (Af (h3 j u hu)))).trans (h3 j u hu)⟩
def In0(w:World)(a:Option Addr)(len cap:Nat)(bs:List Int):Prop:=
 (len=0/\bs=[])∨∃gb off,a=some ⟨gb,off,none⟩/\bs.length=len/\0<len/\len<=cap/\cap<=maxLen/\∀j,j<bs.length->w.cell? ⟨gb,off+j,none⟩=some (.int .u8 (bs.getD j 0))
theorem In0.mono{len cap:Nat}{bs:List Int}(h:In0 w a len cap bs)(hb:Below w.heap.size w w'):In0 w' a len cap bs:=by
 rcases h with h|⟨gb,off,h1,h2,h3,h4,h5,h7⟩
 ·exact .inl h
 ·exact .inr ⟨gb,off,h1,h2,h3,h4,h5,λj hj=>(hb.cell (p:=⟨gb,off+j,none⟩) (Af (h7 j hj))).trans (h7 j hj)⟩
theorem In0.drew{len cap:Nat}{bs:List Int}(h:In0 w a len cap bs):In0 w.drew a len cap bs:=by
 rcases h with h|⟨gb,off,h1,h2,h3,h4,h5,h7⟩
 ·exact .inl h
 ·exact .inr ⟨gb,off,h1,h2,h3,h4,h5,h7⟩
theorem BO(g o j:Nat):(⟨g,o,none⟩:Addr).add j=⟨g,o+j,none⟩:=by unfold Addr.add;split<;>simp_all
theorem In0.inB{len cap:Nat}{bs:List Int}(h:In0 w a len cap bs)(hnil:a=none->len=0/\cap=0):InB w a len cap bs:=by
 rcases h with⟨h1,h2⟩|⟨gb,off,h1,h2,h3,h4,h5,h7⟩
 ·cases a with
  |none=>exact .inl ⟨rfl,h1,(hnil rfl).2,h2⟩
  |some ad=>exact .inr ⟨ad,rfl,by rw[h2,h1];rfl,λj u hu=>by rw[h2]at hu;simp at hu⟩
 ·refine .inr ⟨_,h1,h2,λj u hu=>?_⟩;have hj:j<bs.length:=by have:=(Aw.1 hu).1;simpa using this
  rw[BO,h7 j hj,<-hu];simp[Ac hj]
theorem OwnB.in0{v:Value}{bs:List Int}(h:OwnB w base v bs):∃a cap,v= .slice a bs.length cap/\In0 w a bs.length cap bs/\(a=none->bs.length=0/\cap=0):=by
 by_cases hp:0<bs.length
 ·obtain⟨g,cap,hv,h1,h2,h3,h4,h5⟩:=h.slice hp;exact⟨_,cap,hv, .inr ⟨g,0,rfl,rfl,hp,h3,h4,λj hj=>by rw[AM];exact h5 j hj⟩,λhh=>by cases hh⟩
 ·have h0:bs.length=0:=by omega
  have hb0:bs=[]:=A3 h0;obtain⟨_,h2⟩:=h;rcases h2 with⟨hv,_⟩|⟨g,cap,cur,hv,_⟩
  ·exact⟨none,0,by rw[hv,h0], .inl ⟨h0,hb0⟩,λ_=>⟨h0,rfl⟩⟩
  ·exact⟨some ⟨g,0,none⟩,cap,hv, .inl ⟨h0,hb0⟩,λhh=>by cases hh⟩
theorem FZ{len cap:Nat}{bs:List Int}(h:In0 w a len cap bs):(convert 23 9 (.slice a len cap)).run prog w= .ok (.string (strOfNums bs)) w:=by
 rcases h with⟨rfl,rfl⟩|⟨gb,off,rfl,h2,h3,h4,h5,h7⟩
 ·cases a with
  |none=>exact run_convert_bytes_nil w 23 5 underlying23 underlying5 0 cap 9 underlying9
  |some ad=>
   rw[run_convert_bytes_string w 23 9 5 _ 0 cap underlying23 underlying5 underlying9,run_bytesToString w ad 0 cap [] (by have:=run_loadCells_list (P:=prog) w ad [] (λj v hv=>by simp at hv);simpa using this)];rfl
 ·exact run_convert_bytes_arg w 23 5 underlying23 underlying5 gb off len cap bs h2 (λi hi=>h7 i (by omega)) 9 underlying9
theorem wpl_copy{w:World}{ops:Array Oper}{rest:List Oper}{o:Oper}{a:Act}{Q:Exit->Act->World->Prop}(hgd:o.guard=none)(d x:Operand)
 (ho:o.op= .call {callee:= .builtin .copy,args:=#[d,x],argTypes:=#[23,23]}) (v u:Value) (hd:a.eval d=v) (hx:a.eval x=u) {v':Value} {w':World}
 (hr:(Builtin.copy_ #[23,23] o.type #[v,u]).run prog w= .ok v' w') (h:wpList prog ops Q rest (a.put o.dst v') w'):wpList prog ops Q (o::rest) a w:=by
 refine wpList_plain hgd λK hK=>?_;unfold Oper.wp;simp[execOp,ho,resolve,invoke,builtin,hd,hx,hr,Result.andThen];exact hK _ _ h
theorem DL{w:World}{ops:Array Oper}{rest:List Oper}{o:Oper}{a:Act}{Q:Exit->Act->World->Prop}(hgd:o.guard=none)(s x:Operand)
 (ho:o.op= .call {callee:= .builtin .append,args:=#[s,x],argTypes:=#[23,23]}) (base:Nat) (v:Value) (bs:List Int) (hs:a.eval s=v) (hown:OwnB w base v bs)
 (ad:Option Addr) (m c:Nat) (news:List Int) (hx:a.eval x= .slice ad m c) (hin:In0 w ad m c news) (hnil:ad=none->m=0/\c=0) (hl:news.length=m)
 (hbytes:bs.length+m<=140737488355328) (hbase:base<=w.heap.size)
 (h:∀v' w',OwnB w' base v' (bs++news)->Below base w w'->wpList prog ops Q rest (a.put o.dst v') w'):wpList prog ops Q (o::rest) a w:=by
 cases ad with
 |none=>
  obtain⟨rfl,rfl⟩:=hnil rfl;have hn0:news=[]:=A3 hl;subst hn0;refine app_none hgd s x ho base v bs hs hown hx ?_;exact h v w (by rw[A4];exact hown) (Ak _ _)
 |some ad=>
  have hB:=hin.inB hnil;have hc:∀j u,(news.map (Value.int .u8))[j]?=some u->w.cell? (ad.add j)=some u:=by
   rcases hB with⟨h,_⟩|⟨ad',h1,_,h3⟩
   ·cases h
   ·cases h1;exact h3
  refine app_own hgd s x ho base v bs hs hown ad m c news hx hl hc hbytes hbase ?_;intro v' w' o' g' _;exact h v' w' o' ((Ak _ _).grown g' hbase hown.lt)
structure Ag(w0:World)(a:Option Addr)(len cap:Nat)(bs:List Int):Prop where
 i:In0 w0 a len cap bs
 nil:a=none->len=0/\cap=0
 l:bs.length=len
 b:∀x∈bs,0<=x/\x<256
theorem Ag.at{len cap:Nat}{bs:List Int}(h:Ag w0 a len cap bs)(hb:Below w0.heap.size w0 w):Ag w a len cap bs:=⟨h.i.mono hb,h.nil,h.l,h.b⟩
theorem OwnB.ag{v:Value}{bs:List Int}(h:OwnB w base v bs)(hb:∀x∈bs,0<=x/\x<256):∃a cap,v= .slice a bs.length cap/\Ag w a bs.length cap bs:=by
 obtain⟨a,cap,hv,h1,h2⟩:=h.in0;exact⟨a,cap,hv,h1,h2,rfl,hb⟩
theorem KR{xs ys:List Int}(h1:∀x∈xs,0<=x/\x<256)(h2:∀x∈ys,0<=x/\x<256):∀x∈xs++ys,0<=x/\x<256:=by
 intro x hx;rcases Bc.1 hx with hx|hx
 ·exact h1 x hx
 ·exact h2 x hx
theorem OwnB.far{v:Value}{bs:List Int}(h:OwnB w base v bs)(hf:∀i,base<=i->i<w.heap.size->w'.heap[i]?=w.heap[i]?):OwnB w' base v bs:=by
 refine⟨h.1,?_⟩;rcases h.2 with h2|⟨k,cap,cur,hv,hb,hh,r⟩
 ·exact .inl h2
 ·exact .inr ⟨k,cap,cur,hv,hb,(hf k hb (lt_of_get hh)).trans hh,r⟩
theorem OwnB.below{v:Value}{bs:List Int}(h:OwnB w base v bs)(hb:Below w.heap.size w w'):OwnB w' base v bs:=by
 refine⟨h.1,?_⟩;rcases h.2 with h2|⟨k,cap,cur,hv,hb',hh,r⟩
 ·exact .inl h2
 ·exact .inr ⟨k,cap,cur,hv,hb',Below.row hb hh,r⟩
structure New(w w':World)(g:Nat)(cells:Array Value)(T:TypeId):Prop where
 hg:g=w.heap.size
 hw:w'=w.alloc (.cells cells T)
section
variable {w w' : World} {g : Nat} {cells : Array Value} {T : TypeId}
theorem New.below(h:New w w' g cells T):Below w.heap.size w w':=by rw[h.hw];exact(Ak _ _).alloc (Aa _) _
theorem New.row(h:New w w' g cells T):w'.heap[g]?=some (.cells cells T (0,0)):=by rw[h.hw,h.hg];exact Aj _ _
theorem New.size(h:New w w' g cells T):w'.heap.size=g+1:=by rw[h.hw,h.hg];simp
end
structure Put(w w':World)(g:Nat)(cells:Array Value):Prop where
 hw:w'=w.setRow g cells
section
variable {w w' : World} {g : Nat} {cells : Array Value}
theorem Put.other(h:Put w w' g cells){k:Nat}(hk:k≠g):w'.heap[k]?=w.heap[k]?:=by rw[h.hw];exact Bf _ _ _ _ hk
theorem Put.row(h:Put w w' g cells){old:Array Value}{T:TypeId}{fr:Nat×Nat}(ho:w.heap[g]?=some (.cells old T fr)):w'.heap[g]?=some (.cells cells T fr):=by rw[h.hw];exact AE _ _ _ _ _ _ ho
theorem Put.touch(h:Put w w' g cells):Touch g w w':=by rw[h.hw];exact Touch.setRow _ _ _
theorem Put.below(h:Put w w' g cells){N:Nat}{w0:World}(hb:Below N w0 w)(hg:N<=g)(hs:N<=w.heap.size):Below N w0 w':=h.touch.below hb hg hs
end
structure Set1(w w':World)(g o:Nat)(v:Value):Prop where
 hw:w'=w.setCell ⟨g,o,none⟩ v
section
variable {w w' : World} {g o : Nat} {v : Value}
theorem Set1.touch(h:Set1 w w' g o v):Touch g w w':=by rw[h.hw];exact Touch.setCell _ _ _ _
theorem Set1.other(h:Set1 w w' g o v){k:Nat}(hk:k≠g):w'.heap[k]?=w.heap[k]?:=by rw[h.hw];exact AC _ _ _ _ hk
theorem Set1.size(h:Set1 w w' g o v):w'.heap.size=w.heap.size:=by rw[h.hw];simp
end
section
variable {r : Option Nat} {m : Nat} {P : Program} {ds : List Deferred} {n : Nat} {Q : Exit → Act → World → Prop} {env : Env} {w : World} {ops : Array Oper} {l : List Oper} {o : Oper} {S : World → Prop} {fuel : Nat} {listed : Array Bool} {rs : List Nat}
theorem E5(d:Nat)(cells:Array Value)(T:TypeId)(hc:∀fb,chk n ops env fb o d=true)(hr:∀fb,(execOp (ev env fb) o).run P w= .ok (.value (.pointer (some ⟨w.heap.size,0,none⟩))) (w.alloc (.cells cells T)))
 (h:∀w' g,New w w' g cells T->RW r m P ds n Q ops l ((d, .pointer (some ⟨g,0,none⟩))::env) w'):RW r m P ds n Q ops (o::l) env w:=Ln d _ hc hr (h _ _ ⟨rfl,rfl⟩)
theorem Fo(g:Nat)(cells:Array Value)(hc:∀fb,chk0 ops env fb o=true)(hr:∀fb,(execOp (ev env fb) o).run P w= .ok .skip (w.setRow g cells))(h:∀w',Put w w' g cells->RW r m P ds n Q ops l env w'):RW r m P ds n Q ops (o::l) env w:=Zs hc hr (h _ ⟨rfl⟩)
theorem Rt(g k:Nat)(v:Value)(hc:∀fb,chk0 ops env fb o=true)(hr:∀fb,(execOp (ev env fb) o).run P w= .ok .skip (w.setCell ⟨g,k,none⟩ v))(h:∀w',Set1 w w' g k v->RW r m P ds n Q ops l env w'):RW r m P ds n Q ops (o::l) env w:=Zs hc hr (h _ ⟨rfl⟩)
theorem KS(i g k:Nat)(v:Value)(ho:ops[i]?=some o)(hc:∀fb,chk0 ops env fb o=true)(hr:∀fb,(execOp (ev env fb) o).run P w= .ok .skip (w.setCell ⟨g,k,none⟩ v))(hS:∀w',Set1 w w' g k v->S w')
 (h:∀w',Set1 w w' g k v->DW P ds n Q ops S fuel (listed.setIfInBounds i true) env w') (hs:AR P ds n Q ops S fuel listed env w rs):AR P ds n Q ops S fuel listed env w (i::rs):=
 Yu i ho hc hr (hS _ ⟨rfl⟩) (h _ ⟨rfl⟩) hs
end
section
variable {P : Program} {ρ : Operand → Value} {w : World} {o : Oper}
theorem Eb(T:TypeId)(x:Operand)(g:Nat)(cs:Array Value)(t:TypeId)(fr:Nat×Nat)(d:TypeDesc)(ho:o.op= .load T x)(hx:ρ x= .pointer (some ⟨g,0,none⟩))(hg:w.heap[g]?=some (.cells cs t fr))(hu:P.underlying T=some d)(hd:(match d with| .struct _| .array _ _=>true|_=>false)=true)(hi:(P.info? T).map (·.size)=some cs.size):
 (execOp ρ o).run P w= .ok (.value (.agg cs)) w:=by
 unfold execOp;simp only[ho,hx,Instr.loadAt,Instr.sureAddr,B9,BA,Ba,C9 w g t T cs fr d hg hu hd hi]
theorem Uo(T:TypeId)(x:Operand)(b off:Nat)(cs:List Value)(d:TypeDesc)(ho:o.op= .load T x)(hx:ρ x= .pointer (some ⟨b,off,none⟩))(hc:w.rangeAt b off cs)(hu:P.underlying T=some d)(hd:d.isRow=true)(hi:(P.info? T).map (·.size)=some cs.length):
 (execOp ρ o).run P w= .ok (.value (.agg cs.toArray)) w:=by
 unfold execOp;simp only[ho,hx,Instr.loadAt,Instr.sureAddr,B9,BA,Ba,run_loadVar_mid w b off T cs d hc hu hd hi]
theorem AA(T:TypeId)(x:Operand)(p:Addr)(v:Value)(d:TypeDesc)(ho:o.op= .load T x)(hx:ρ x= .pointer (some p))(hc:w.cell? p=some v)(hu:P.underlying T=some d)(hd:(match d with| .struct _| .array _ _=>true|_=>false)=false):
 (execOp ρ o).run P w= .ok (.value v) w:=by
 have ha:(isAgg T).run P w= .ok false w:=by
  cases d<;>simp_all [isAgg,BE hu]
 unfold execOp;simp only[ho,hx,Instr.loadAt,Instr.sureAddr,B9,BA,Ba,loadVar,ha,Cd,Er];simp[hc]
theorem BP(T:TypeId)(x y:Operand)(g:Nat)(cells old:Array Value)(t:TypeId)(ho:o.op= .store T x y)(hx:ρ x= .pointer (some ⟨g,0,none⟩))(hy:ρ y= .agg cells)(hg:w.heap[g]?=some (.cells old t (0,0)))(hi:(P.info? T).map (·.size)=some cells.size)(hold:old.size=cells.size)(h1:cells.all (·.oneCell')=true):
 (execOp ρ o).run P w= .ok .skip (w.setRow g cells):=by
 unfold execOp;rw[ho];simp only[hx,hy,Instr.storeAt,Instr.sureAddr,B9,BA,Ba,run_storeVar_row w g t T old cells hg hi hold h1]
theorem Bh(T:TypeId)(x y:Operand)(g off j mm c sz:Nat)(E:TypeId)(ho:o.op= .indexAddr T x y)(hx:ρ x= .slice (some ⟨g,off,none⟩) mm c)(hy:ρ y= .int .i64 j)(hj:j<mm)(hu:P.underlying T=some (.slice E))(hi:(P.info? E).map (·.size)=some sz):
 (execOp ρ o).run P w= .ok (.value (.pointer (some ⟨g,off+j*sz,none⟩))) w:=by
 have hs:(sizeOf E).run P w= .ok sz w:=by
  cases hq:P.info? E with
  |none=>simp[hq]at hi
  |some z=>simp[hq]at hi;simp[sizeOf,typeInfo,hq,hi]
 unfold execOp;rw[ho];simp only[hx,hy];have he:(if j*sz=0 then(⟨g,off,none⟩:Addr)else⟨g,off+j*sz,none⟩)=⟨g,off+j*sz,none⟩:=by split<;>simp_all
 simp[Instr.indexAt,asIntOf,BE hu,hs,hj,Result.andThen,Addr.add,he]
theorem PP(T:TypeId)(x y:Operand)(r:TypeId)(p q:ByteArray){b:Bool}(ho:o.op= .binOp .eql T x y r)(hx:ρ x= .string p)(hy:ρ y= .string q)(hb:(p.toList==q.toList)=b):(execOp ρ o).run P w= .ok (.value (.bool b)) w:=by
 subst hb;unfold execOp;rw[ho];simp only[hx,hy];go_simp
theorem Yw(T:TypeId)(x y:Operand)(r:TypeId)(p q:ByteArray){b:Bool}(ho:o.op= .binOp .neq T x y r)(hx:ρ x= .string p)(hy:ρ y= .string q)(hb:(!(p.toList==q.toList))=b):(execOp ρ o).run P w= .ok (.value (.bool b)) w:=by
 subst hb;unfold execOp;rw[ho];simp only[hx,hy];go_simp
theorem Bu{v v':Value}{w':World}(h:(execOp ρ o).run P w= .ok (.value v) w')(e:v=v'):(execOp ρ o).run P w= .ok (.value v') w':=by rw[<-e];exact h
end
theorem Ec{x:Int}(h1:-9223372036854775808<=x)(h2:x<=9223372036854775807):IntKind.i64.wrap x=x:=by unfold IntKind.wrap;simp[IntKind.bits,IntKind.signed];omega
end Go.Proofs.YtefhepcplempkaaGreat
namespace Go.Proofs.YtefhepcplempkaaGreat
open Go.ChangeMaps (setBlock)
section
variable {r : Option Nat} {m : Nat} {P : Program} {ds : List Deferred} {n : Nat} {Q : Exit → Act → World → Prop} {env : Env} {w w' : World} {ops : Array Oper} {l : List Oper} {o : Oper}
theorem PQ{α:Type}{B:Nat}{Kp:World->World->Prop}{I:List α->World->Prop}{Ix:Code->List α->World->Prop}{xs:List α}{W:World}(h1:KeepsFrom B W w)(h2:Kp W w)(h3:I xs w):NW ds n (ownPostG B Kp I Ix xs W) .normal env w:=λa ha=>⟨h1,h2,h3⟩
theorem N2{fn:Func}{R:Ending->World->Prop}{D:Nat}(hK:w.heap[D]?=some (.deferred (some [])))(v:Value)(hr:∀fb,(resF (lkF env fb) fn.results).run P (w.putObj D (.deferred none))= .ok v (w.putObj D (.deferred none)))(hR:R (.returned v) (w.putObj D (.deferred none))):
 NW [{target:= .collected D,args:=#[]}] n (bodyPostM Fence.wide m P fn R) .ret env w:=λa ha=>by
 show LeavesInM Fence.wide m P fn a.tmps R a.defers .returning w;rw[ha.df];refine⟨by simp, .inl ⟨_,_,rfl,run_takeDeferred hK,?_⟩⟩;refine⟨v,?_,hR⟩;rw[Ff,show(λt=>a.tmps.getD t undef)=lkF env (λt=>a.tmps.getD t undef)from funext ha.get];exact hr _
end
section
variable {P : Program} {ρ : Operand → Value} {w w' : World} {o : Oper}
end
theorem New.put{w w1 w2:World}{g:Nat}{z cells:Array Value}{T:TypeId}(h:New w w1 g z T)(hp:Put w1 w2 g cells):New w w2 g cells T:=⟨h.hg,by rw[hp.hw,h.hw,h.hg];exact World.setRow_alloc_new _ _ _ _⟩
end Go.Proofs.YtefhepcplempkaaGreat
namespace Go.Proofs.YtefhepcplempkaaGreat
def DI(m:Nat)(P:Program)(ds:List Deferred)(n:Nat)(Q:Exit->Act->World->Prop)(ops:Array Oper)(fuel:Nat)(listed:Array Bool)(env:Env)(w:World):Prop:=∀a,Frm ds n env a->wpAnyIn Fence.wide m P .any ops Q fuel listed a w
def AI(m:Nat)(P:Program)(ds:List Deferred)(n:Nat)(Q:Exit->Act->World->Prop)(ops:Array Oper)(fuel:Nat)(listed:Array Bool)(env:Env)(w:World)(rs:List Nat):Prop:=∀a,Frm ds n env a->AllReadyIn Fence.wide m P .any ops Q fuel listed a w rs
section
variable {m : Nat} {P : Program} {ds : List Deferred} {n : Nat} {Q : Exit → Act → World → Prop} {env : Env} {w w' : World} {ops : Array Oper} {o : Oper} {fuel : Nat} {listed : Array Bool} {rs : List Nat}
theorem WF{id:Nat}(hm:P.follows .mixedOrders=true)(h:DI m P ds n Q ops ops.size (Array.replicate ops.size false) env w.drew):CW none m P ds n Q (.region id ops true) env w:=λa ha=>wpIn_region_any (F:=Fence.wide) hm (h a ha)
theorem KT(hr:Region.ready .any ops listed=[])(h:NW ds n Q .normal env w):DI m P ds n Q ops fuel listed env w:=λa ha=>wpAnyIn_done hr (h a ha) fuel
theorem Fh(rs:List Nat)(hr:Region.ready .any ops listed=rs)(hne:rs≠[])(h:AI m P ds n Q ops fuel listed env w rs):DI m P ds n Q ops (fuel+1) listed env w:=λa ha=>wpAnyIn_ready hr hne (h a ha)
theorem Ru(i d:Nat)(v:Value)(ho:ops[i]?=some o)(hk:tkOk ops listed i=true)(hQ:∀c a w,Q (.panic c) (a.put (some d) v) w->Q (.panic c) a w)(hc:∀fb,chk n ops env fb o d=true)
 (hr:∀w fb,(execOp (ev env fb) o).run P w= .ok (.value v) w) (hb:∀w fb,o.about P w (ev env fb)=none) (h:DI m P ds n Q ops fuel (listed.setIfInBounds i true) ((d,v)::env) w):DI m P ds n Q ops (fuel+1) listed env w:=λa ha=>by
 obtain⟨h1,h2,h3,_⟩:=Fe (hc (λt=>a.tmps.getD t undef));unfold tkOk at hk;simp only[BN]at hk;refine wpAnyIn_take (v:=v) rfl ho hk.1.1 hk.1.2 hk.2 (by rw[h1];exact hQ) ⟨Or.inl ⟨by rw[ha.want];exact h3,λw=>by rw[ha.ev];exact hr w _⟩,λw=>by rw[ha.ev];exact hb w _⟩ ?_;rw[h1];exact h _ (Fn ha h2 v)
theorem GL:AI m P ds n Q ops fuel listed env w []:=λa ha=>AllReadyIn.nil
theorem SI(i d:Nat)(v:Value)(ho:ops[i]?=some o)(hc:∀fb,chk n ops env fb o d=true)(hr:∀fb,(execOp (ev env fb) o).run P w= .ok (.value v) w')
 (h:DI m P ds n Q ops fuel (listed.setIfInBounds i true) ((d,v)::env) w') (hs:AI m P ds n Q ops fuel listed env w rs):AI m P ds n Q ops fuel listed env w (i::rs):=λa ha=>by
 obtain⟨h1,h2,h3,hnd⟩:=Fe (hc (λt=>a.tmps.getD t undef));refine AllReadyIn.cons ho (λK hK=>?_) (hs a ha);rw[ha.want,Ai h3];refine⟨λf _=>trivial,?_⟩;rw[CK _ _ _ hnd,ha.ev,hr,Oper.uponIn_value,h1];exact hK _ _ (h _ (Fn ha h2 v))
theorem Rv(i d:Nat)(f:FuncId)(args:Array Value)(ho:ops[i]?=some o)(hc:∀fb,chk n ops env fb o d=true)(hr:∀fb,(execOp (ev env fb) o).run P w= .ok (.enter f args) w){R:Value->World->Prop}
 (hcall:Calls P f args w λe w'=>∃v,e= .returned v/\R v w') (h:∀v w',R v w'->DI m P ds n Q ops fuel (listed.setIfInBounds i true) ((d,v)::env) w')
 (hs:AI m P ds n Q ops fuel listed env w rs):AI m P ds n Q ops fuel listed env w (i::rs):=λa ha=>by
 obtain⟨h1,h2,h3,hnd⟩:=Fe (hc (λt=>a.tmps.getD t undef));refine AllReadyIn.cons ho (λK hK=>?_) (hs a ha);rw[ha.want,Ai h3];refine⟨λf _=>trivial,?_⟩;rw[CK _ _ _ hnd,ha.ev,hr,Oper.uponIn_enter];refine⟨λh=>absurd h Cv,?_⟩;refine CallsIn.mono' (F:=Fence.wide) (Fk.2 hcall) ?_;rintro e w'⟨v,rfl,hR⟩;rw[h1];exact hK _ _ (h v w' hR _ (Fn ha h2 v))
theorem M7{m m' lp:Nat}{args:Array Value}{W:World}{R:Ending->World->Prop}(h:YieldAt Fence.wide m P lp args W R):YieldAt Fence.wide m' P lp args W R:=by
 obtain⟨fn,tmps,assign,body,hy,hR⟩:=h;exact⟨fn,tmps,assign,body,hy,hR.1,λc cs _=>hR.2 c cs (room_wide _)⟩
theorem O3(i d:Nat)(lp:Nat)(args:Array Value)(ho:ops[i]?=some o)(hc:∀fb,chk n ops env fb o d=true)(hr:∀fb,(execOp (ev env fb) o).run P w=(Instr.yield lp args).run P w){R:Ending->World->Prop}
 (hY:YieldAt Fence.wide 0 P lp args w R) (h:∀e w',R e w'->∃v,e= .returned v/\DI m P ds n Q ops fuel (listed.setIfInBounds i true) ((d,v)::env) w')
 (hs:AI m P ds n Q ops fuel listed env w rs):AI m P ds n Q ops fuel listed env w (i::rs):=λa ha=>by
 obtain⟨h1,h2,h3,hnd⟩:=Fe (hc (λt=>a.tmps.getD t undef));obtain⟨fn,tmps,assign,body,hy,hR⟩:=M7 (m':=m-1) hY;refine AllReadyIn.cons ho (λK hK=>?_) (hs a ha);rw[ha.want,Ai h3];refine⟨λf _=>trivial,?_⟩;rw[CK _ _ _ hnd,ha.ev,hr,hy,Oper.uponIn_round];refine⟨λh=>absurd h Cv,?_⟩;refine RoundIn.mono (F:=Fence.wide) hR ?_;intro e w' hq;obtain⟨v,rfl,hw⟩:=h e w' hq;show K (a.put o.dst v) w';rw[h1];exact hK _ _ (hw _ (Fn ha h2 v))
end
end Go.Proofs.YtefhepcplempkaaGreat
namespace Go.Proofs.YtefhepcplempkaaGreat.Ni
def isB(b:List Int):Prop:=∀x∈b,0<=x/\x<256
theorem O4{x:Int}{r:List Int}(h:isB (x::r)):(0<=x/\x<256)/\isB r:=⟨h x (by simp),λy hy=>h y (by simp[hy])⟩
def nib:List Int->List Int
 |[]=>[]
 |b::r=>b/16::b%16::nib r
theorem nib_len:∀k:List Int,(nib k).length=2*k.length
 |[]=>rfl
 |b::r=>by simp only[nib,AU,nib_len r];omega
theorem Rx:∀a b:List Int,nib (a++b)=nib a++nib b
 |[],_=>rfl
 |x::a,b=>by simp only[Cq,nib,Rx a b]
theorem nib_bd:∀k:List Int,isB k->∀x∈nib k,0<=x/\x<=15
 |[],_,x,h=>by cases h
 |b::r,hb,x,h=>by
  obtain⟨h1,h2⟩:=O4 hb;rcases AP.1 h with rfl|h
  ·omega
  rcases AP.1 h with rfl|h
  ·omega
  ·exact nib_bd r h2 x h
theorem Ry{k:List Int}(h:isB k):isB (nib k):=λx hx=>by have:=nib_bd k h x hx;omega
theorem getD_mem{l:List Int}{i:Nat}(h:i<l.length):l.getD i 0∈l:=by
 rw[List.getD,Ac h];exact Bw _
theorem O5{b:List Int}(h:isB b)(i:Nat):isB (b.drop i):=λx hx=>h x (BF hx)
theorem take_snoc{b:List Int}{i:Nat}(hi:i<b.length):b.take (i+1)=b.take i++[b.getD i 0]:=by
 rw[C4,Ac hi];simp[List.getD,Ac hi]
theorem O6{b:List Int}{i:Nat}(hi:i<b.length):nib (b.take (i+1))=nib (b.take i)++[b.getD i 0/16,b.getD i 0%16]:=by
 rw[take_snoc hi,Rx];rfl
def rightP(p:List Int):Bool:=p.all λx=>decide (x<=15)
theorem rightP_iff{p:List Int}:rightP p=true↔∀x∈p,x<=15:=by simp[rightP]
theorem JP{k:List Int}(h:isB k):rightP (nib k)=true:=rightP_iff.2 λx hx=>(nib_bd k h x hx).2
theorem O7{p:List Int}{j:Nat}(h:j<p.length)(hx:p.getD j 0>15):rightP p=false:=by
 cases e:rightP p with
 |false=>rfl
 |true=>have:=rightP_iff.1 e _ (getD_mem h);omega
theorem M8{p:List Int}(h:∀i,i<p.length->p.getD i 0<=15):rightP p=true:=rightP_iff.2 λx hx=>by
 obtain⟨i,hi,rfl⟩:=List.getElem_of_mem hx;have:=h i hi;rwa [List.getD,Ac hi]at this
theorem Gz{p:List Int}(h:rightP p=true){i:Nat}(hi:i<p.length):p.getD i 0<=15:=rightP_iff.1 h _ (getD_mem hi)
theorem M9{p q:List Int}:rightP (p++q)=(rightP p&&rightP q):=by simp[rightP]
def kk:List Int->List Int
 |a::b::r=>(16*a+b)::kk r
 |_=>[]
theorem kk_nib:∀k:List Int,kk (nib k)=k
 |[]=>rfl
 |b::r=>by simp only[nib,kk,kk_nib r];congr 1;omega
theorem Lo:∀p:List Int,(kk p).length=p.length/2
 |[]=>rfl
 |[_]=>by simp[kk]
 |a::b::r=>by simp only[kk,AU,Lo r];omega
theorem N3:∀(p:List Int)(i:Nat),2*i+1<p.length->(kk p).getD i 0=16*p.getD (2*i) 0+p.getD (2*i+1) 0
 |[],i,h=>by simp at h
 |[_],i,h=>by simp at h
 |a::b::r,0,h=>rfl
 |a::b::r,i+1,h=>by
  have h2:2*i+1<r.length:=by simp at h;omega
  have:=N3 r i h2;simp only[kk];rw[show 2*(i+1)=2*i+1+1 from by omega];simpa using this
theorem Up:∀p:List Int,isB p->rightP p=true->p.length%2=0->nib (kk p)=p
 |[],_,_,_=>rfl
 |[_],_,_,h=>by simp at h
 |a::b::r,hb,hr,hl=>by
  have h0:=hb a (by simp);have h1:=rightP_iff.1 hr b (by simp);have h2:=hb b (by simp);have h3:isB r:=λx hx=>hb x (by simp[hx]);have h4:rightP r=true:=rightP_iff.2 λx hx=>rightP_iff.1 hr x (by simp[hx]);simp only[kk,nib,Up r h3 h4 (by simp at hl;omega)];rw[show(16*a+b)/16=a from by omega,show(16*a+b)%16=b from by omega]
theorem N5:∀p:List Int,isB p->rightP p=true->isB (kk p)
 |[],_,_=>λx hx=>by cases hx
 |[_],_,_=>λx hx=>by simp[kk]at hx
 |a::b::r,hb,hr=>by
  have h0:=hb a (by simp);have h5:=rightP_iff.1 hr a (by simp);have h1:=rightP_iff.1 hr b (by simp);have h2:=hb b (by simp);have ih:=N5 r (λx hx=>hb x (by simp[hx])) (rightP_iff.2 λx hx=>rightP_iff.1 hr x (by simp[hx]));intro x hx;simp only[kk]at hx;rcases AP.1 hx with rfl|hx
  ·omega
  ·exact ih x hx
def keyP(p:List Int):List Int×Bool:=if rightP p=true/\p.length%2=0 then(kk p,true)else([],false)
theorem Hk{p:List Int}(h:rightP p=true)(h2:p.length%2=0):keyP p=(kk p,true):=Ai ⟨h,h2⟩
theorem GM{p:List Int}(h:¬(rightP p=true/\p.length%2=0)):keyP p=([],false):=Ae h
theorem key_nib{k:List Int}(h:isB k):keyP (nib k)=(k,true):=by
 rw[Hk (JP h) (by rw[nib_len];omega),kk_nib]
def hdP(n:Nat)(leaf:Bool):List Int:=if n%2=0 then[if leaf then 2 else 0,0]else[(if leaf then 2 else 0)+1]
theorem hd_len(n:Nat)(leaf:Bool):(hdP n leaf).length=2-n%2:=by
 unfold hdP;split
 ·rename_i h;rw[h];rfl
 ·rename_i h;rw[show n%2=1 from by omega];rfl
theorem Yz(n:Nat)(leaf:Bool):isB (hdP n leaf):=by
 unfold hdP;cases leaf<;>split<;>(intro x hx;simp at hx;omega)
theorem O8(n:Nat)(leaf:Bool):rightP (hdP n leaf)=true:=by
 refine rightP_iff.2 ?_;unfold hdP;cases leaf<;>split<;>(intro x hx;simp at hx;omega)
def packP(p:List Int)(leaf:Bool):List Int×Nat:=if rightP p=true then(kk (hdP p.length leaf++p),0)else([],40)
theorem packP_yes{p:List Int}{leaf:Bool}(h:rightP p=true):packP p leaf=(kk (hdP p.length leaf++p),0):=Ai h
theorem Uq{p:List Int}{leaf:Bool}(h:¬rightP p=true):packP p leaf=([],40):=Ae h
theorem Lp{p:List Int}{leaf:Bool}(h:rightP p=true):rightP (hdP p.length leaf++p)=true:=by rw[M9,O8,h];rfl
theorem MA(p:List Int)(leaf:Bool):(hdP p.length leaf++p).length%2=0:=by rw[Ab,hd_len];omega
theorem Lq{p:List Int}{leaf:Bool}(h:isB p):isB (hdP p.length leaf++p):=by
 intro x hx;rcases Bc.1 hx with hx|hx
 ·exact Yz _ _ x hx
 ·exact h x hx
theorem O9{p:List Int}{leaf:Bool}:keyP (hdP p.length leaf++p)=if rightP p=true then(kk (hdP p.length leaf++p),true)else([],false):=by
 by_cases h:rightP p=true
 ·rw[Ai h,Hk (Lp h) (MA _ _)]
 ·rw[Ae h,GM];rintro⟨h1,_⟩;rw[M9,O8]at h1;exact h (by simpa using h1)
theorem pack_len{p:List Int}{leaf:Bool}:(kk (hdP p.length leaf++p)).length=p.length/2+1:=by rw[Lo,Ab,hd_len];omega
abbrev badU(c:Int):Prop:=c/16>3∨(c/16%2=0/\c%16≠0)
def unpP:List Int->List Int×Bool×Nat
 |[]=>([],false,40)
 |c::r=>if badU c then([],false,40)else((nib (c::r)).drop (if c/16%2=0 then 2 else 1),decide (c/16>=2),0)
theorem Rz:unpP []=([],false,40):=rfl
theorem Jf(c:Int)(r:List Int):unpP (c::r)=if badU c then([],false,40)else((nib (c::r)).drop (if c/16%2=0 then 2 else 1),decide (c/16>=2),0):=rfl
theorem R8{b:List Int}(h:0<b.length)(hb:badU (b.getD 0 0)):unpP b=([],false,40):=by
 cases b with
 |nil=>simp at h
 |cons c r=>exact Ai hb
theorem OA{b:List Int}(h:0<b.length)(hb:¬badU (b.getD 0 0)):unpP b=((nib b).drop (if b.getD 0 0/16%2=0 then 2 else 1),decide (b.getD 0 0/16>=2),0):=by
 cases b with
 |nil=>simp at h
 |cons c r=>exact Ae hb
theorem unp_le(b:List Int):(unpP b).1.length<=2*b.length:=by
 cases b with
 |nil=>exact AD _
 |cons c r=>
  rw[Jf];split
  ·exact AD _
  ·rw[AQ,nib_len];omega
theorem unp_pack{p:List Int}{leaf:Bool}(hb:isB p)(h:rightP p=true):unpP (kk (hdP p.length leaf++p))=(p,leaf,0):=by
 have e:=Up _ (Lq (leaf:=leaf) hb) (Lp (leaf:=leaf) h) (MA p leaf);by_cases hp:p.length%2=0
 ·have e1:hdP p.length leaf=[if leaf then 2 else 0,0]:=Ai hp;rw[e1]at e⊢;simp only[Cq,AL,kk]at e⊢;rw[Jf];have e2:¬badU (16*(if leaf=true then 2 else 0)+0):=by unfold badU;cases leaf<;>simp
  rw[Ae e2,e];cases leaf<;>simp
 ·have e1:hdP p.length leaf=[(if leaf then 2 else 0)+1]:=Ae hp;rw[e1]at e⊢;cases p with
  |nil=>simp at hp
  |cons y r=>
   have hy:=rightP_iff.1 h y (by simp);have hy0:=hb y (by simp);simp only[Cq,AL,kk]at e⊢;rw[Jf];have q1:(16*((if leaf=true then 2 else 0)+1)+y)/16=(if leaf=true then 2 else 0)+1:=(by cases leaf<;>simp<;>omega);have e2:¬badU (16*((if leaf=true then 2 else 0)+1)+y):=(by unfold badU;rw[q1];cases leaf<;>simp);rw[Ae e2,e,q1];cases leaf<;>simp
theorem pack_unp{b:List Int}(hb:isB b)(h:(unpP b).2.2=0):packP (unpP b).1 (unpP b).2.1=(b,0):=by
 cases b with
 |nil=>simp[unpP]at h
 |cons c r=>
  obtain⟨hc,hr⟩:=O4 hb;rw[Jf]at h⊢;by_cases hbad:badU c
  ·rw[Ai hbad]at h;simp at h
  ·rw[Ae hbad]at h⊢;simp only;have hrn:=JP hb;by_cases h2:c/16%2=0
   ·have hz:c%16=0:=Classical.byContradiction λhn=>hbad (.inr ⟨h2,hn⟩);have h3:¬c/16>3:=λhn=>hbad (.inl hn);rw[Ai h2];have e:(nib (c::r)).drop 2=nib r:=rfl;rw[e,packP_yes (JP hr)];congr 1;have e1:hdP (nib r).length (decide (c/16>=2))=[c/16,c%16]:=by
     unfold hdP;rw[Ai (by rw[nib_len];omega),hz];by_cases hge:c/16>=2
     ·rw[AT hge];simp;omega
     ·rw[Bb hge];simp;omega
    rw[e1];exact kk_nib (c::r)
   ·have h3:¬c/16>3:=λhn=>hbad (.inl hn);rw[Ae h2];have e:(nib (c::r)).drop 1=c%16::nib r:=rfl;have hrr:rightP (c%16::nib r)=true:=rightP_iff.2 λx hx=>rightP_iff.1 hrn x (by simp only[nib];exact AN _ hx);rw[e,packP_yes hrr];congr 1;have e1:hdP (c%16::nib r).length (decide (c/16>=2))=[c/16]:=by
     unfold hdP;rw[Ae (by rw[AU,nib_len];omega)];by_cases hge:c/16>=2
     ·rw[AT hge];simp;omega
     ·rw[Bb hge];simp;omega
    rw[e1];exact kk_nib (c::r)
def com:List Int->List Int->Nat
 |x::p,y::q=>if x=y then com p q+1 else 0
 |_,_=>0
theorem com_le:∀p q:List Int,com p q<=p.length/\com p q<=q.length
 |[],_=>by simp[com]
 |_::_,[]=>by simp[com]
 |x::p,y::q=>by
  have:=com_le p q;simp only[com];split
  ·simp;omega
  ·simp
theorem com_take:∀p q:List Int,p.take (com p q)=q.take (com p q)
 |[],_=>by simp[com]
 |_::_,[]=>by simp[com]
 |x::p,y::q=>by
  simp only[com];split
  ·rename_i h;subst h;simp[com_take p q]
  ·simp
theorem com_stop:∀p q:List Int,com p q<p.length->com p q<q.length->p.getD (com p q) 0≠q.getD (com p q) 0
 |[],_,h,_=>by simp at h
 |_::_,[],_,h=>by simp at h
 |x::p,y::q,h1,h2=>by
  simp only[com]at h1 h2⊢;split at h1
  ·rename_i e;rw[Ai e]at h2⊢;simp only[List.getD_cons_succ];exact com_stop p q (by simp at h1;omega) (by simp at h2;omega)
  ·rename_i e;rw[Ae e];exact e
theorem Lr:∀(p q:List Int)(n:Nat),n<=p.length->n<=q.length->p.take n=q.take n->(n=p.length∨n=q.length∨p.getD n 0≠q.getD n 0)->com p q=n
 |[],q,n,h1,h2,h3,h4=>by simp at h1;simp[com,h1]
 |x::p,[],n,h1,h2,h3,h4=>by simp at h2;simp[com,h2]
 |x::p,y::q,0,h1,h2,h3,h4=>by
  simp only[com];rw[Ae];rcases h4 with h|h|h
  ·simp at h
  ·simp at h
  ·exact h
 |x::p,y::q,n+1,h1,h2,h3,h4=>by
  simp only[CG,List.cons.injEq]at h3;simp only[com];rw[Ai h3.1,Lr p q n (by simpa using h1) (by simpa using h2) h3.2 (by simpa using h4)]
theorem Ur:∀p q:List Int,com p q=com q p
 |[],[]=>rfl
 |[],_::_=>rfl
 |_::_,[]=>rfl
 |x::p,y::q=>by
  simp only[com,Ur p q];by_cases h:x=y
  ·rw[Ai h,Ai h.symm]
  ·rw[Ae h,Ae (λe=>h e.symm)]
def lessP:List Int->List Int->Bool
 |_,[]=>false
 |[],_::_=>true
 |x::p,y::q=>if x=y then lessP p q else decide (x<y)
theorem Jg:∀p q:List Int,(lessP p q||lessP q p)=!decide (p=q)
 |[],[]=>rfl
 |[],y::q=>by simp[lessP]
 |x::p,[]=>by simp[lessP]
 |x::p,y::q=>by
  simp only[lessP];by_cases h:x=y
  ·subst h;rw[Ai rfl,Ai rfl,Jg p q];simp
  ·rw[Ae h,Ae (λe=>h e.symm)];have:x<y∨y<x:=(by omega);rcases this with h1|h1
   ·simp[h,h1]
   ·simp[h,h1]
theorem less_nib:∀a b:List Int,lessP (nib a) (nib b)=lessP a b
 |[],[]=>rfl
 |[],y::b=>by simp[nib,lessP]
 |_::_,[]=>by simp[nib,lessP]
 |x::a,y::b=>by
  have ih:=less_nib a b;simp only[nib,lessP];by_cases h:x=y
  ·subst h;rw[Ai rfl,Ai rfl,Ai rfl,ih]
  ·rw[Ae h];by_cases h1:x/16=y/16
   ·rw[Ai h1,Ae (by omega),EK];omega
   ·rw[Ae h1,EK];omega
end Go.Proofs.YtefhepcplempkaaGreat.Ni
namespace Go.Proofs.YtefhepcplempkaaGreat
inductive Tr where
 |no:Tr
 |leaf (p v:List Int):Tr
 |ext (p:List Int) (c:Tr):Tr
 |br (k:Nat->Tr) (v:List Int):Tr
namespace Tr
def isNo:Tr->Bool
 |no=>true
 |_=>false
def isBr:Tr->Bool
 |br _ _=>true
 |_=>false
def upd(k:Nat->Tr)(i:Nat)(t:Tr):Nat->Tr:=λj=>if j=i then t else k j
theorem C1(k:Nat->Tr)(i:Nat)(t:Tr):upd k i t i=t:=by simp[upd]
theorem Cx(k:Nat->Tr){i j:Nat}(t:Tr)(h:j≠i):upd k i t j=k j:=by simp[upd,h]
def nk:Nat->Tr:=λ_=>no
def get:Tr->List Int->List Int
 |no,_=>[]
 |leaf p v,q=>if q=p then v else[]
 |ext p c,q=>if q.take p.length=p then get c (q.drop p.length)else[]
 |br k v,[]=>v
 |br k v,i::r=>get (k i.toNat) r
def und(p:List Int):Tr->Tr
 |no=>no
 |leaf q v=>leaf (p++q) v
 |ext q c=>ext (p++q) c
 |br k v=>if p=[]then br k v else ext p (br k v)
def add(k:Nat->Tr)(x:List Int)(q v:List Int):Tr:=match q with
 |[]=>br k v
 |i::r=>br (upd k i.toNat (leaf r v)) x
def addT(t:Tr)(q v:List Int):Tr:=match t with
 |br k x=>add k x q v
 |t=>t
def put:Tr->List Int->List Int->Tr
 |no,q,v=>leaf q v
 |leaf p x,q,v=>if q=p then leaf q v else und (q.take (Ni.com p q)) (addT (add nk [] (p.drop (Ni.com p q)) x) (q.drop (Ni.com p q)) v)
 |ext p c,q,v=>if Ni.com p q=p.length then ext p (put c (q.drop p.length) v)else und (q.take (Ni.com p q)) (add (upd nk (p.getD (Ni.com p q) 0).toNat (und (p.drop (Ni.com p q+1)) c)) [] (q.drop (Ni.com p q)) v)
 |br k x,[],v=>br k v
 |br k x,i::r,v=>br (upd k i.toNat (put (k i.toNat) r v)) x
def kidsN(k:Nat->Tr):Nat->Nat
 |0=>0
 |n+1=>kidsN k n+if(k n).isNo then 0 else 1
def lastN(k:Nat->Tr):Nat->Nat
 |0=>0
 |n+1=>if(k n).isNo then lastN k n else n
def nrm(k:Nat->Tr)(x:List Int):Tr:=
 if kidsN k 16=0 then leaf [] x else if kidsN k 16=1/\x=[]then und [(lastN k 16:Int)] (k (lastN k 16))else br k x
def del:Tr->List Int->Tr
 |no,_=>no
 |leaf _ _,_=>no
 |ext p c,q=>und p (del c (q.drop p.length))
 |br k x,[]=>nrm k []
 |br k x,i::r=>nrm (upd k i.toNat (del (k i.toNat) r)) x
def Nb(p:List Int):Prop:=∀i∈p,0<=i/\i<16
theorem Nb.drop{p:List Int}(h:Nb p)(n:Nat):Nb (p.drop n):=λi hi=>h i (BF hi)
theorem Nb.app{p q:List Int}(h:Nb p)(k:Nb q):Nb (p++q):=λi hi=>by
 rcases Bc.1 hi with hi|hi
 ·exact h i hi
 ·exact k i hi
theorem Nb.head{i:Int}{r:List Int}(h:Nb (i::r)):0<=i/\i<16:=h i (by simp)
theorem Nb.tail{i:Int}{r:List Int}(h:Nb (i::r)):Nb r:=λj hj=>h j (AN _ hj)
def two(k:Nat->Tr)(x:List Int):Prop:=(∃i j,i≠j/\k i≠no/\k j≠no)∨(x≠[]/\∃i,k i≠no)
def Ok:Nat->Tr->Prop
 |_,no=>False
 |B,leaf p v=>Nb p/\p.length<=B/\v≠[]
 |B,ext p c=>Nb p/\p≠[]/\p.length<=B/\c.isBr=true/\Ok (B-p.length) c
 |B,br k x=>(∀i,k i=no∨(i<16/\1<=B/\Ok (B-1) (k i)))/\two k x
theorem R9(p:List Int)(t:Tr)(q:List Int):get (und p t) q=if q.take p.length=p then get t (q.drop p.length)else[]:=by
 cases t with
 |no=>simp[und,get]
 |leaf r v=>
  simp only[und,get];by_cases h:q.take p.length=p
  ·rw[Ai h];have e:q=p++q.drop p.length:=(by conv=>lhs;rw[<-Be p.length q,h]);by_cases h2:q.drop p.length=r
   ·rw[Ai h2,Ai (by rw[e,h2])]
   ·rw[Ae h2,Ae (λe2=>h2 (by rw[e2];simp))]
  ·rw[Ae h,Ae (λe=>h (by rw[e];simp))]
 |ext r c=>
  simp only[und,get,Ab];by_cases h:q.take p.length=p
  ·rw[Ai h];have e:q.take (p.length+r.length)=p++(q.drop p.length).take r.length:=by
    rw[List.take_add,h]
   rw[e,List.drop_drop];by_cases h2:(q.drop p.length).take r.length=r
   ·rw[Ai h2,Ai (by rw[h2])]
   ·rw[Ae h2,Ae (λe2=>h2 (List.append_cancel_left e2))]
  ·rw[Ae h,Ae (λe=>h (by
    have:=Au (List.take p.length) e;rw[E8,CP (by omega)]at this;simpa using this))]
 |br k v=>
  simp only[und];by_cases h:p=[]
  ·subst h;simp
  ·rw[Ae h];simp only[get]
theorem PS{B:Nat}{p:List Int}{t:Tr}(hp:Nb p)(h:Ok B t):Ok (B+p.length) (und p t):=by
 cases t with
 |no=>exact h
 |leaf q v=>exact⟨hp.app h.1,by simp;have:=h.2.1;omega,h.2.2⟩
 |ext q c=>
  obtain⟨h1,h2,h3,h4,h5⟩:=h;refine⟨hp.app h1,by simp[h2],by simp;omega,h4,?_⟩;rw[show B+p.length-(p++q).length=B-q.length from by simp;omega];exact h5
 |br k v=>
  simp only[und];by_cases hq:p=[]
  ·rw[Ai hq,hq];exact h
  ·rw[Ae hq];refine⟨hp,hq,by omega,rfl,?_⟩;rw[show B+p.length-p.length=B from by omega];exact h
theorem Ok.ne{B:Nat}{t:Tr}(h:Ok B t):t≠no:=λe=>by rw[e]at h;exact h
theorem isNo_iff{t:Tr}:t.isNo=true↔t=no:=by cases t<;>simp[isNo]
end Tr
end Go.Proofs.YtefhepcplempkaaGreat
