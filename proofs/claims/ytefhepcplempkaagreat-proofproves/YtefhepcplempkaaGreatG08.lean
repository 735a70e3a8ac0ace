/- What the method Sum of digest.Hash answers, for every Hash that lies in memory: the last bytes, the mark, the length, mixed in; nothing that was there is changed. -/
import Derived.Test.YtefhepcplempkaaGreatAK
import Derived.Test.YtefhepcplempkaaGreatG07
import Derived.Laws.CopyOwn
import Derived.Deep.RegionLaw
import Derived.Deep.RegionHeld3
import Derived.Deep.DrawnRows
import Derived.Laws.AppendOwnNone
import Derived.Deep.DeepCutAuto
set_option linter.unusedVariables false
set_option maxRecDepth 100000
set_option maxHeartbeats 4000000
open Go.Proofs.Tryz Go.RowKit
namespace Go.Proofs.YtefhepcplempkaaGreat.Di
def HC(s:S4)(tl:List Int)(n:Nat):Array Value:=(#[Value.int .u64 s.a,Value.int .u64 s.b,Value.int .u64 s.c,Value.int .u64 s.d]++B8 tl).push (.int .i64 n)
theorem NU(s:S4)(tl:List Int)(n:Nat):(HC s tl n).size=tl.length+5:=by simp[HC,B8_size];omega
theorem Sc(s:S4)(tl:List Int)(n:Nat)(k:Nat)(h:k<tl.length):(HC s tl n)[4+k]?=some (.int .u8 (tl.getD k 0)):=by
 unfold HC;rw[Array.getElem?_push_lt (by simp[B8_size];omega),Array.getElem_append_right (by simp)];have:=B8_get tl k h;simp[BV]at this;obtain⟨_,e⟩:=this;simp[e]
theorem Vg(s:S4)(tl:List Int)(n:Nat):(HC s tl n)[0]?=some (.int .u64 s.a)/\(HC s tl n)[1]?=some (.int .u64 s.b)/\(HC s tl n)[2]?=some (.int .u64 s.c)/\(HC s tl n)[3]?=some (.int .u64 s.d):=by
 unfold HC;refine⟨?_,?_,?_,?_⟩<;>(rw[Array.getElem?_push_lt (by simp[B8_size];omega),Array.getElem_append_left (by simp)];simp)
theorem Vh(s:S4)(tl:List Int)(n:Nat)(h:tl.length=32):(HC s tl n)[36]?=some (.int .i64 n):=by
 unfold HC;rw[Array.getElem?_push,Ai (by simp[B8_size,h])]
theorem FK{w:World}{g:Nat}{a b c d:Int}{tl:List Int}{n:Nat}(h:w.heap[g]?=some (.cells (HC ⟨a,b,c,d⟩ tl n) 115))(hl:tl.length=32):
 w.cell? ⟨g,0,none⟩=some (.int .u64 a)/\w.cell? ⟨g,1,none⟩=some (.int .u64 b)/\w.cell? ⟨g,2,none⟩=some (.int .u64 c)/\w.cell? ⟨g,3,none⟩=some (.int .u64 d)/\w.cell? ⟨g,36,none⟩=some (.int .i64 n)/\(∀o,w.frozen? ⟨g,o,none⟩=false):=by
 obtain⟨e0,e1,e2,e3⟩:=Vg ⟨a,b,c,d⟩ tl n;have e4:=Vh ⟨a,b,c,d⟩ tl n hl;exact⟨by rw[Ad w g _ _ _ _ h,e0],by rw[Ad w g _ _ _ _ h,e1],by rw[Ad w g _ _ _ _ h,e2],by rw[Ad w g _ _ _ _ h,e3],by rw[Ad w g _ _ _ _ h,e4],λo=>AY w g o _ _ h⟩
theorem Zx{w:World}{g:Nat}{s:S4}{tl:List Int}{n:Nat}(h:w.heap[g]?=some (.cells (HC s tl n) 115))(f:Nat)(hf:f<=tl.length):
 ∀j v,((tl.take f).map (Value.int .u8))[j]?=some v->w.cell? ((⟨g,4,none⟩:Addr).add j)=some v:=by
 intro j v hv;have hadd:(⟨g,4,none⟩:Addr).add j=⟨g,4+j,none⟩:=by unfold Addr.add;split<;>simp_all
 have hj:j<f:=by
  have:=(Aw.1 hv).1;simp at this;omega
 rw[hadd,Ad w g _ _ _ _ h,Sc s tl n j (by omega),<-hv];simp[hj,Ac (show j<tl.length by omega)]
theorem Iz{V:World}{p q:World->Prop}(F:q V)(h:∀v,q v->p v):p V:=h V F
theorem step_copy{P:Program}{ops:Array Oper}{o:Oper}{a:Act}{w:World}{K:Act->World->Prop}{Q:Exit->Act->World->Prop}{E:Prop}
 (hg:o.guard=none) (d x:Operand) (dT sT:TypeId) (WC:o.op=Op.call {callee:=Callee.builtin Builtin.copy,args:=#[d,x],argTypes:=#[dT,sT]})
 (v u:Value) (hd:a.eval d=v) (hx:a.eval x=u) {v':Value} {w':World} (hr:(Builtin.copy_ #[dT,sT] o.type #[v,u]).run P w= .ok v' w') (hK:K (a.put o.dst v') w'):
 if Region.wanted o (yielded ops a.tmps)=true then Oper.wp P o a w K Q else E:=by
 have hw:Region.wanted o (yielded ops a.tmps)=true:=by simp[Region.wanted,hg]
 rw[Ai hw];unfold Oper.wp;simp[execOp,WC,resolve,invoke,builtin,hd,hx,hr,Result.andThen];exact hK
theorem NX(bs:List Int):∀v∈bs.map (Value.int .u8),v.oneCell'=true:=by
 intro v hv;obtain⟨x,_,rfl⟩:=BD.1 hv;rfl
theorem Xe{w:World}{N t o dl dc sl sc:Nat}{ad:Addr}{ds xs:List Int}(hN:w.heap[N]?=some (.cells (B8 ds) t))(hn:xs.length=Nat.min sl dl)(hfit:o+xs.length<=ds.length)
 (hsrc:∀j v,(xs.map (Value.int .u8))[j]?=some v->w.cell? (ad.add j)=some v) (ty:TypeId):
 (Builtin.copy_ #[23,23] ty #[.slice (some ⟨N,o,none⟩) dl dc, .slice (some ad) sl sc]).run prog w= .ok (.int .i64 xs.length) (w.setRow N (B8 (ds.take o++xs++ds.drop (o+xs.length)))):=by
 have h:=run_copy_row prog w 23 23 ty 5 N o dl dc ad sl sc (B8 ds) t (xs.map (Value.int .u8)) underlying23 (by kernel_rfl) hN (by simpa using hn) hsrc (by simpa[B8_size]using hfit) (NX _);rw[h];simp[goInt,B8]
theorem Vi{w:World}{g N:Nat}{s:S4}{tl:List Int}{n f:Nat}(hg:w.heap[g]?=some (.cells (HC s tl n) 115))(hl:tl.length=32)(hf:f<=32)(hN:w.heap[N]?=some (.cells (B8 (List.replicate 32 0)) 34))(ty:TypeId):
 (Builtin.copy_ #[23,23] ty #[.slice (some ⟨N,0,none⟩) 32 32, .slice (some ⟨g,4,none⟩) f 32]).run prog w= .ok (.int .i64 f) (w.setRow N (B8 (tl.take f++List.replicate (32-f) 0))):=by
 have e:(tl.take f).length=f:=by rw[Am];omega
 have h:=Xe (o:=0) (dl:=32) (dc:=32) (sl:=f) (sc:=32) (xs:=tl.take f) hN (by rw[e];exact(CP hf).symm) (by rw[e,Bo];omega) (Zx hg f (by omega)) ty;rw[h,e];simp only[BL,AL,AM,List.drop_replicate]
structure SW(g N:Nat)(w0 w:World)(H Z L:Obj):Prop where
 hg:w.heap[g]?=some H
 h0:w.heap[N]?=some Z
 h1:w.heap[N+1]?=some L
 bel:Below N w0 w
 sz:w.heap.size=N+1+1
theorem YJ{w:World}{g:Nat}{H:Obj}(hg:w.heap[g]?=some H)(Z L:Obj):SW g w.heap.size w ((w.alloc Z).alloc L) H Z L:=by
 have s1:(w.alloc Z).heap.size=w.heap.size+1:=by simp
 have h1:=Aj w Z;have h2:=Aj (w.alloc Z) L;rw[s1]at h2;have l:=lt_of_get hg;exact⟨by rw[Az _ _ _ (by omega),Az _ _ _ (by omega)];exact hg,by rw[Az _ _ _ (by omega)];exact h1,h2,((Ak _ _).alloc (Aa _) _).alloc (by omega) _,by simp⟩
theorem SW.setL{g N:Nat}{w0 w:World}{H Z:Obj}{L L':Array Value}{t:Nat}(h:SW g N w0 w H Z (.cells L t))(hgN:g<N):SW g N w0 (w.setRow (N+1) L') H Z (.cells L' t):=
 ⟨(Bf _ _ _ _ (by omega)).trans h.hg,(Bf _ _ _ _ (by omega)).trans h.h0,AE _ _ _ _ _ _ h.h1,Below.setRow h.bel (by omega) _,by simpa using h.sz⟩
theorem SW.drew{g N:Nat}{w0 w:World}{H Z L:Obj}(h:SW g N w0 w H Z L):SW g N w0 w.drew H Z L:=⟨h.hg,h.h0,h.h1,h.bel.drew,h.sz⟩
structure S5(g N:Nat)(w0 w:World)(H Z L S:Obj):Prop where
 hg:w.heap[g]?=some H
 h0:w.heap[N]?=some Z
 h1:w.heap[N+1]?=some L
 h2:w.heap[N+1+1]?=some S
 bel:Below N w0 w
 gN:g<N
theorem SW.next{g N:Nat}{w0 w:World}{H Z:Obj}{ds:List Int}{t:Nat}(h:SW g N w0 w H Z (.cells (B8 ds) t))(hgN:g<N)(f:Nat)(x:Int)(S:Obj):
 S5 g N w0 ((w.setCell ⟨N+1,f,none⟩ (.int .u8 x)).alloc S) H Z (.cells (B8 (ds.set f x)) t) S:=by
 have sz:(w.setCell ⟨N+1,f,none⟩ (.int .u8 x)).heap.size=N+1+1:=by simpa using h.sz
 have h2:=Aj (w.setCell ⟨N+1,f,none⟩ (.int .u8 x)) S;rw[sz]at h2;refine⟨?_,?_,?_,h2,(h.bel.setCell (by simp) _).alloc (by omega) _,hgN⟩
 ·rw[Az _ _ _ (by omega),AC _ _ _ _ (by simp;omega)];exact h.hg
 ·rw[Az _ _ _ (by omega),AC _ _ _ _ (by simp)];exact h.h0
 ·rw[Az _ _ _ (by omega),AX w (N+1) f _ t _ h.h1,Qm]
theorem S5.call{g N:Nat}{w0 v w1:World}{H Z L S:Obj}(h:S5 g N w0 v H Z L S)(hb:Below v.heap.size v w1):S5 g N w0 w1 H Z L S:=by
 have l:=lt_of_get h.h2;have:=h.gN;exact⟨(hb.block _ (by omega)).trans h.hg,(hb.block _ (by omega)).trans h.h0,(hb.block _ (by omega)).trans h.h1,(hb.block _ (by omega)).trans h.h2,h.bel.trans (hb.mono (by omega)),h.gN⟩
theorem S5.alloc{g N:Nat}{w0 v:World}{H Z L S:Obj}(h:S5 g N w0 v H Z L S)(o:Obj):S5 g N w0 (v.alloc o) H Z L S:=by
 have l:=lt_of_get h.h2;have:=h.gN;exact⟨(Az _ _ _ (by omega)).trans h.hg,(Az _ _ _ (by omega)).trans h.h0,(Az _ _ _ (by omega)).trans h.h1,(Az _ _ _ (by omega)).trans h.h2,h.bel.alloc (by omega) _,h.gN⟩
theorem S5.sizes{g N:Nat}{w0 v:World}{H Z L S:Obj}(h:S5 g N w0 v H Z L S):g<v.heap.size/\N<v.heap.size/\N+1<v.heap.size/\N+1+1<v.heap.size:=by
 have l:=lt_of_get h.h2;have:=h.gN;omega
theorem S5.drew{g N:Nat}{w0 w:World}{H Z L S:Obj}(h:S5 g N w0 w H Z L S):S5 g N w0 w.drew H Z L S:=⟨h.hg,h.h0,h.h1,h.h2,h.bel.drew,h.gN⟩
theorem S5.setS{g N:Nat}{w0 w:World}{H Z L:Obj}{x0 x1 x2 x3:Value}(h:S5 g N w0 w H Z L (.cells #[x0,x1,x2,x3] 112))(a b c d:Value):
 S5 g N w0 ((((w.setCell ⟨N+1+1,0,none⟩ a).setCell ⟨N+1+1,1,none⟩ b).setCell ⟨N+1+1,2,none⟩ c).setCell ⟨N+1+1,3,none⟩ d) H Z L (.cells #[a,b,c,d] 112):=by
 have:=h.gN;exact⟨(GT (by omega) a b c d).trans h.hg,(GT (by omega) a b c d).trans h.h0,(GT (by omega) a b c d).trans h.h1,Ve h.h2 a b c d,JW h.bel (by omega) a b c d,h.gN⟩
theorem S5.setL{g N:Nat}{w0 w:World}{H Z S:Obj}{L L':Array Value}{t:Nat}(h:S5 g N w0 w H Z (.cells L t) S):S5 g N w0 (w.setRow (N+1) L') H Z (.cells L' t) S:=by
 have:=h.gN;exact⟨(Bf _ _ _ _ (by omega)).trans h.hg,(Bf _ _ _ _ (by omega)).trans h.h0,AE _ _ _ _ _ _ h.h1,(Bf _ _ _ _ (by omega)).trans h.h2,Below.setRow h.bel (by omega) _,h.gN⟩
def load23V(v:Value):Sem Value:=Instr.loadAt 34 v
theorem Kz(v:Value):Instr.loadAt 34 v=load23V v:=rfl
theorem Qn{w:World}{N t:Nat}{ls:List Int}(h:w.heap[N]?=some (.cells (B8 ls) t))(hl:ls.length=32):(load23V (.pointer (some ⟨N,0,none⟩))).run prog w= .ok (.agg (B8 ls)) w:=by
 have hs:(prog.info? 34).map (·.size)=some (B8 ls).size:=by rw[B8_size,hl];kernel_rfl
 simp only[load23V,Instr.loadAt,Instr.sureAddr,B9,BA,Ba,C9 w N t 34 (B8 ls) (0,0) _ h underlying34 rfl hs]
attribute [local go_sem ↓] Kz Go.wp_at_zero Go.wp_at_succ
theorem K3:∀x∈List.replicate 32 (0:Int),0<=x/\x<256:=by
 intro x hx;rw[(Dk.1 hx).2];omega
theorem OV{tl:List Int}(h:∀x∈tl,0<=x/\x<256){f:Nat}:∀x∈(List.take f tl++List.replicate (32-f) 0).set f 128,0<=x/\x<256:=by
 intro x hx;rcases List.mem_or_eq_of_mem_set hx with hx|hx
 ·rcases Bc.1 hx with hx|hx
  ·exact h x (Bn hx)
  ·rw[(Dk.1 hx).2];omega
 ·omega
def lastOf(f:Nat)(tl:List Int):List Int:=(List.take f tl++List.replicate (32-f) 0).set f 128
def finS(s:S4)(tl:List Int)(n:Nat):S4:=
 if n%32<24 then mix s {words (lastOf (n%32) tl)with d:=n}else mix (mix s (words (lastOf (n%32) tl))) {words (List.replicate 32 0)with d:=n}
theorem Qo{s:S4}{tl ls:List Int}{n f:Nat}{ma mb mc md a b c d:Int}(hf:n%32=f)(h:f<24)(hl:ls=lastOf f tl)(hm:S4.mk ma mb mc md=words ls)(hx:S4.mk a b c d=mix s ⟨ma,mb,mc,n⟩):S4.mk a b c d=finS s tl n:=by
 unfold finS;rw[hf,Ai h,<-hl,<-hm,hx]
theorem Tn{s s':S4}{tl ls:List Int}{n f:Nat}{ma mb mc md a b c d:Int}(hf:n%32=f)(h:¬f<24)(hl:ls=lastOf f tl)(hs:s'=mix s (words ls))(hm:S4.mk ma mb mc md=words (List.replicate 32 0))(hx:S4.mk a b c d=mix s' ⟨ma,mb,mc,n⟩):S4.mk a b c d=finS s tl n:=by
 unfold finS;rw[hf,Ae h,<-hl,<-hm,hx,hs]
theorem Xf(f:Nat)(tl:List Int):(List.take f tl++List.replicate (32-f) 0).set f 128=lastOf f tl:=rfl
theorem Xg(g:Nat)(a b c d:Int)(tl:List Int)(n:Nat)(hl:tl.length=32)(htl:∀x∈tl,0<=x/\x<256)(hn:n<9223372036854775808)(w:World)(hg:w.heap[g]?=some (.cells (HC ⟨a,b,c,d⟩ tl n) 115)):
 Calls prog 64 #[.pointer (some ⟨g,0,none⟩)] w λe w'=>e= .returned (.agg (B8 (dig (finS ⟨a,b,c,d⟩ tl n))))/\Below w.heap.size w w':=by
 obtain⟨c0,c1,c2,c3,c36,cf⟩:=FK hg hl;have hlt:=lt_of_get hg;have F0:=YJ hg (.cells (B8 (List.replicate 32 0)) 35) (.cells (B8 (List.replicate 32 0)) 34);have hl':=ZQ hl;clear hg hl;go_enter func64,ntmps64;go_wp2_with fail;obtain⟨f,hf⟩:∃f:Nat,n%32=f:=⟨_,rfl⟩;rw[show((n:Int)%32)=(f:Int)from by omega];have hf32:f<32:=by omega
 have hfi:(f:Int)<32:=by omega
 have hfj:(f:Int)<=32:=by omega
 have HF:=ZQ hf;clear hf;refine Iz (p:=λv=>Code.wp _ _ _ _ v) (q:=λv=>SW g w.heap.size w v (.cells (HC ⟨a,b,c,d⟩ tl n) 115) (.cells (B8 (List.replicate 32 0)) 35) (.cells (B8 (List.replicate 32 0)) 34)) F0 ?_;clear F0;intro v F1
 go_region_law (refine step_copy rfl _ _ _ _ rfl _ _ rfl rfl (Vi (f:=f) F1.drew.hg hl'.out (by omega) F1.drew.h1 _) ?_)
 refine Iz (p:=λv=>Exit.then _ _ _ _ v) (q:=λv=>SW g w.heap.size w v (.cells (HC ⟨a,b,c,d⟩ tl n) 115) (.cells (B8 (List.replicate 32 0)) 35) (.cells (B8 (tl.take f++List.replicate (32-f) 0)) 34)) (F1.drew.setL hlt) ?_;clear F1;intro v F1;have hcell:=NT F1.h1 f (by simp[hl'.out];omega);have hfr:=AY _ _ f _ _ F1.h1;generalize (List.take f tl++List.replicate (32-f) 0).getD f 0=y at hcell;clear c0 c1 c2 c3 c36 cf;obtain⟨c0,c1,c2,c3,c36,cf⟩:=FK F1.hg hl'.out;have hne:¬w.heap.size+1=g:=by omega
 have hsz:=F1.sz;have F2:=F1.next hlt f 128 (.cells #[.int .u64 a, .int .u64 b, .int .u64 c, .int .u64 d] 112);clear F1;have hls:((List.take f tl++List.replicate (32-f) 0).set f 128).length=32:=by simp[hl'.out];omega
 have HB:=ZQ (OV htl (f:=f));have HW:=ZQ (Xf f tl);generalize (List.take f tl++List.replicate (32-f) 0).set f 128=ls at F2 hls HB HW;have HI:Hid ((prog.info? 34).map (·.size)=some (B8 ls).size):=by unfold Hid;rw[B8_size,hls];kernel_rfl
 have Hls:=ZQ hls;clear hls;by_cases hge:f<24
 ·have hgi:¬(24:Int)<=f:=by omega
  go_wp2_with (first|refine EU rfl 34 _ rfl _ rfl 34 _ _ _ F2.h1 underlying34 rfl HI.out ?_);clear c0 c1 c2 c3 c36 cf hcell hfr;refine(GA ls Hls.out HB.out _).mono ?_;rintro e w6⟨⟨ma,mb,mc,md,rfl,H6⟩,hb6⟩;have F3:=F2.call hb6;clear hb6 F2;obtain⟨c0,c1,c2,c3,c36,cf⟩:=FK F3.hg hl'.out;obtain⟨p0,p1,p2,p3,pf⟩:=Da F3.h2;obtain⟨z0,z1,z2,z3⟩:=F3.sizes;go_wp2_with fail;refine(J5 _ _ _ _ _ _ _ _ _).mono ?_;rintro e w7⟨⟨a7,b7,c7,d7,rfl,H7⟩,hb7⟩;have F4:=(F3.alloc _).call hb7;clear hb7 F3 c0 c1 c2 c3 c36 cf p0 p1 p2 p3 pf;go_wp2_with fail;refine(MR _ _ _ _ _).mono ?_;rintro e w8⟨rfl,hb8⟩;have F5:=F4.call hb8;clear hb8 F4;have HX:=ZQ (Qo HF.out hge HW.out H6.out H7.out);rw[HX.out];have HI2:Hid ((prog.info? 35).map (·.size)=some (B8 (dig (finS ⟨a,b,c,d⟩ tl n))).size):=by unfold Hid;rw[B8_size];kernel_rfl
  have hdl:(dig (finS ⟨a,b,c,d⟩ tl n)).length=32:=by simp[dig]
  generalize hds:dig (finS ⟨a,b,c,d⟩ tl n)=ds at HI2 hdl⊢;have HD:=ZQ hds;clear hds;go_wp2_with (first|refine A7 rfl 35 _ _ rfl _ (B8 ds) rfl rfl 35 _ F5.h0 HI2.out (by rw[B8_size,B8_size,hdl,Bo]) (B8_one _) ?_);refine Aq (Bg results64 _ _ w.heap.size 35 (B8 ds) (0,0) _ rfl (AE _ _ _ _ _ _ F5.h0) underlying35 rfl HI2.out) rfl ?_;exact⟨by rw[HD.out],Below.setRow F5.bel (by omega) _⟩
 ·have hgi:(24:Int)<=f:=by omega
  have hu:=underlying34;have hi:(prog.info? 34).map (·.size)=some (ls.map (Value.int .u8)).length:=by rw[AZ,Hls.out];kernel_rfl
  have hll:(ls.map (Value.int .u8)).length=32:=by rw[AZ,Hls.out]
  have hoo:=NX ls;go_wp2_with fail;refine Iz (p:=λv=>Code.wp _ _ _ _ v) (q:=λv=>S5 g w.heap.size w v _ _ _ _) F2 ?_;clear F2 c0 c1 c2 c3 c36 cf hcell hfr hsz hne v;intro v F2;obtain⟨q0,q1,q2,q3,qf⟩:=Da F2.h2;have n1:=Qn (w:=v.drew) F2.h1 Hls.out;clear hu hi hll hoo
  go_region_with (first
   |(go_at_call 92;refine(GA ls Hls.out HB.out _).mono ?_;rintro e w6⟨⟨ma,mb,mc,md,rfl,H6⟩,hb6⟩;have F3:=F2.drew.call hb6;clear hb6;obtain⟨q0,q1,q2,q3,qf⟩:=Da F3.h2)
   |(go_at_call 91;refine(J5 _ _ _ _ _ _ _ _ _).mono ?_;rintro e w7⟨⟨a7,b7,c7,d7,rfl,H7⟩,hb7⟩;have F4:=F3.call hb7;clear hb7;obtain⟨q0,q1,q2,q3,qf⟩:=Da F4.h2))
  all_goals
   refine Iz (p:=λv=>Exit.then _ _ _ _ v) (q:=λv=>S5 g w.heap.size w v (.cells (HC ⟨a,b,c,d⟩ tl n) 115) (.cells (B8 (List.replicate 32 0)) 35) (.cells (B8 ls) 34) (.cells #[.int .u64 a7, .int .u64 b7, .int .u64 c7, .int .u64 d7] 112)) (F4.setS _ _ _ _) ?_;have H7':=ZQ (H7.out.trans (Au (mix ⟨a,b,c,d⟩) H6.out));clear n1 q0 q1 q2 q3 qf F4 F3 F2 H7 H6;intro v5 F5;have F6:=S5.setL (L':=B8 (List.replicate 32 0)) F5;have HIz:Hid ((prog.info? 34).map (·.size)=some (B8 (List.replicate 32 0)).size):=(by unfold Hid;rw[B8_size];kernel_rfl);have HSz:Hid ((B8 ls).size=(B8 (List.replicate 32 0)).size):=(by unfold Hid;rw[B8_size,B8_size,Hls.out,Bo]);go_wp2_with (first|refine A7 rfl 34 _ _ rfl _ (B8 (List.replicate 32 0)) rfl rfl 34 _ F5.h1 HIz.out HSz.out (B8_one _) ?_|refine EU rfl 34 _ rfl _ rfl 34 _ _ _ F6.h1 underlying34 rfl HIz.out ?_);refine(GA (List.replicate 32 0) Bo K3 _).mono ?_;rintro e w6⟨⟨ma,mb,mc,md,rfl,H6⟩,hb6⟩;have F7:=F6.call hb6;clear hb6 F5 F6;obtain⟨c0,c1,c2,c3,c36,cf⟩:=FK F7.hg hl'.out;obtain⟨p0,p1,p2,p3,pf⟩:=Da F7.h2;obtain⟨z0,z1,z2,z3⟩:=F7.sizes;go_wp2_with fail;refine(J5 _ _ _ _ _ _ _ _ _).mono ?_;rintro e w8⟨⟨a8,b8,c8,d8,rfl,H8⟩,hb8⟩;have F8:=(F7.alloc _).call hb8;clear hb8 F7 c0 c1 c2 c3 c36 cf p0 p1 p2 p3 pf;go_wp2_with fail;refine(MR _ _ _ _ _).mono ?_;rintro e w9⟨rfl,hb9⟩;have F9:=F8.call hb9;clear hb9 F8;have HX:=ZQ (Tn HF.out hge HW.out H7'.out H6.out H8.out);rw[HX.out];have HI2:Hid ((prog.info? 35).map (·.size)=some (B8 (dig (finS ⟨a,b,c,d⟩ tl n))).size):=(by unfold Hid;rw[B8_size];kernel_rfl);have hdl:(dig (finS ⟨a,b,c,d⟩ tl n)).length=32:=(by simp[dig]);generalize hds:dig (finS ⟨a,b,c,d⟩ tl n)=ds at HI2 hdl⊢;have HD:=ZQ hds;clear hds;go_wp2_with (first|refine A7 rfl 35 _ _ rfl _ (B8 ds) rfl rfl 35 _ F9.h0 HI2.out (by rw[B8_size,B8_size,hdl,Bo]) (B8_one _) ?_);refine Aq (Bg results64 _ _ w.heap.size 35 (B8 ds) (0,0) _ rfl (AE _ _ _ _ _ _ F9.h0) underlying35 rfl HI2.out) rfl ?_;exact⟨by rw[HD.out],Below.setRow F9.bel (by omega) _⟩
end Go.Proofs.YtefhepcplempkaaGreat.Di
namespace Go.Proofs.YtefhepcplempkaaGreat.Di
theorem Xh(x k:Int)(w:World)(hk0:0<=k)(hk1:k<64):
 Calls prog 67 #[.int .u64 x, .int .i64 k] w λe w'=>e= .returned (.int .u64 (rotl x k))/\∃n,w'=w.drewN n:=by
 go_enter func67,ntmps67;go_wp2_with fail
 go_quiet (fail)
 go_wp2;go_ret;exact⟨rfl,_,rfl⟩
def wd(bs:List Int)(at_:Nat):Nat->Int
 |0=>0
 |k+1=>or8 (wd bs at_ k) (bs.getD (at_+k) 0)
theorem Xi(m b:Int):IntKind.u64.wrap (IntKind.u64.wrap (m*256)+b)=or8 m b:=by
 unfold or8 wr;simp only[C0];omega
theorem Vj(g len cap at_:Nat)(bs:List Int)(w:World)(hlen:at_+8<=len)(hm:len<=maxLen)
 (hc:∀k,k<8->w.cell? ⟨g,at_+k,none⟩=some (.int .u8 (bs.getD (at_+k) 0))) (hb:∀k,k<8->0<=bs.getD (at_+k) 0/\bs.getD (at_+k) 0<256):
 Calls prog 66 #[.slice (some ⟨g,0,none⟩) len cap, .int .i64 at_] w λe w'=>e= .returned (.int .u64 (wd bs at_ 8))/\w'=w:=by
 unfold maxLen at hm;have HC:=ZQ hc;have HB:=ZQ hb;clear hc hb;go_enter func66,ntmps66;go_wp2_with fail
 go_loop [5,6] (λv i=>∃k:Nat,k<=8/\i= .int .i64 k/\v= .int .u64 (wd bs at_ k)) (λ_ i=>8-(intOf i).toNat)
 case atStart=>exact⟨0,by omega,rfl,rfl⟩
 case round=>
  obtain⟨k,hk,rfl,rfl⟩:=hrel;by_cases hlt:k<8
  ·have hcell:=HC.out k hlt;have hbd:=HB.out k hlt;have HS:Hid (wd bs at_ (k+1)=or8 (wd bs at_ k) (bs.getD (at_+k) 0)):=rfl;generalize bs.getD (at_+k) 0=b at hcell hbd HS;obtain⟨hb0,hb1⟩:=hbd;generalize wd bs at_ k=m at HS;have hidx:(at_:Int)+k<len:=(by omega);have hfit:((at_:Int)+k).toNat=at_+k:=(by omega);go_wp2
   go_round
   case rel=>exact⟨k+1,by omega,by go_num,by rw[HS.out,Xi]⟩
   case measure=>simp[intOf];omega
  ·have hk2:k=8:=(by omega);subst hk2;go_wp2;go_ret;exact⟨rfl,rfl⟩
theorem B8_one2(bs:List Int):∀v∈bs.map (Value.int .u8),v.oneCell'=true:=by
 intro v hv;obtain⟨x,_,rfl⟩:=BD.1 hv;rfl
def OwnB(w:World)(base:Nat)(v:Value)(bs:List Int):Prop:=w.ownsRow base 5 1 v bs.length (bs.map (Value.int .u8))
theorem info5:∃i,prog.info? 5=some i/\i.zero=some (.int .u8 0)/\i.size=1/\i.bytes=1:=by
 have h:(prog.info? 5).map (λi=>(i.zero,i.size,i.bytes))=some (some (.int .u8 0),1,1):=by kernel_rfl
 cases hq:prog.info? 5 with
 |none=>rw[hq]at h;simp at h
 |some i=>rw[hq]at h;simp at h;exact⟨i,rfl,h.1,h.2.1,h.2.2⟩
theorem app_own{w:World}{ops:Array Oper}{rest:List Oper}{o:Oper}{a:Act}{Q:Exit->Act->World->Prop}(hgd:o.guard=none)(s x:Operand)
 (ho:o.op= .call {callee:= .builtin .append,args:=#[s,x],argTypes:=#[23,23]}) (base:Nat) (v:Value) (bs:List Int) (hs:a.eval s=v) (hown:OwnB w base v bs)
 (ad:Addr) (m c:Nat) (news:List Int) (hx:a.eval x= .slice (some ad) m c) (hl:news.length=m) (hnews:∀j u,(news.map (Value.int .u8))[j]?=some u->w.cell? (ad.add j)=some u)
 (hbytes:bs.length+m<=140737488355328) (hbase:base<=w.heap.size)
 (h:∀v' w',OwnB w' base v' (bs++news)->w.grownBy w' v.ownBlock->(v'= .slice none 0 0↔v= .slice none 0 0/\m=0)->wpList prog ops Q rest (a.put o.dst v') w'):wpList prog ops Q (o::rest) a w:=by
 obtain⟨i,hi,hz,hsz,hby⟩:=info5;refine wpList_append_own w hgd s x 23 ho base 5 i (.int .u8 0) 1 1 underlying23 hi hz hsz hby rfl (by decide) v bs.length (bs.map (Value.int .u8)) hs hown ad m c (news.map (Value.int .u8)) hx (by simpa using hl) hnews (B8_one2 _) (by unfold maxLen;omega) (by omega) hbase ?_;intro v' w' h1 h2 h3;refine h v' w' ?_ h2 h3;unfold OwnB;rw[Ab,hl,BB];exact h1
theorem app_none{w:World}{ops:Array Oper}{rest:List Oper}{o:Oper}{a:Act}{Q:Exit->Act->World->Prop}(hgd:o.guard=none)(s x:Operand)
 (ho:o.op= .call {callee:= .builtin .append,args:=#[s,x],argTypes:=#[23,23]}) (base:Nat) (v:Value) (bs:List Int) (hs:a.eval s=v) (hown:OwnB w base v bs)
 (hx:a.eval x= .slice none 0 0) (h:wpList prog ops Q rest (a.put o.dst v) w):wpList prog ops Q (o::rest) a w:=by
 obtain⟨i,hi,_,_,_⟩:=info5;exact wpList_append_own_none hgd s x 23 ho base 5 i 1 underlying23 hi v bs.length _ hs hown hx h
def InB(w:World)(a:Option Addr)(len cap:Nat)(bs:List Int):Prop:=
 (a=none/\len=0/\cap=0/\bs=[])∨∃ad,a=some ad/\bs.length=len/\∀j u,(bs.map (Value.int .u8))[j]?=some u->w.cell? (ad.add j)=some u
def zc(n:Nat):Nat:=(55-n%32)%32
def len8(n:Nat)(k:Nat):List Int:=(List.range k).map λi=>(n:Int)/2^(56-8*i)%256
def padded(bs:List Int):List Int:=bs++[128]++List.replicate (zc bs.length) 0++len8 bs.length 8
theorem Ih(n k:Nat):(len8 n k).length=k:=by simp[len8]
theorem MS(n k:Nat):len8 n k++[(n:Int)/2^(56-8*k)%256]=len8 n (k+1):=by simp[len8,CR]
def lenOf:Value->Nat| .slice _ n _=>n|_=>0
theorem OwnB.slice{w:World}{base:Nat}{v:Value}{bs:List Int}(h:OwnB w base v bs)(hne:0<bs.length):
 ∃g cap,v= .slice (some ⟨g,0,none⟩) bs.length cap/\base<=g/\g<w.heap.size/\bs.length<=cap/\cap<=maxLen/\∀j,j<bs.length->w.cell? ⟨g,j,none⟩=some (.int .u8 (bs.getD j 0)):=by
 obtain⟨_,h2⟩:=h;rcases h2 with⟨_,h2⟩|⟨g,cap,cur,hv,hg,hh,hn,hcap,hsz,ht⟩
 ·omega
 ·refine⟨g,cap,hv,hg,lt_of_get hh,hn,hcap,?_⟩;intro j hj;rw[Ad w g j _ _ _ hh];have e:(cur.toList.take (bs.length*1))[j]?=(bs.map (Value.int .u8))[j]?:=by rw[ht]
  rw[AO (by omega)]at e;simp at e;rw[e];simp[Ac hj]
theorem OwnB.alloc{w:World}{base:Nat}{v:Value}{bs:List Int}(h:OwnB w base v bs)(o:Obj):OwnB (w.alloc o) base v bs:=World.ownsRow.alloc h o
theorem OwnB.new(w:World):OwnB (w.alloc (.cells #[] 5)) w.heap.size (.slice (some ⟨w.heap.size,0,none⟩) 0 0) []:=
 ⟨rfl, .inr ⟨w.heap.size,0,#[],rfl,Aa _,Aj _ _,Aa _,by unfold maxLen;omega,rfl,rfl⟩⟩
theorem OwnB.lt{w:World}{base:Nat}{v:Value}{bs:List Int}(h:OwnB w base v bs):∀k,v.ownBlock=some k->base<=k:=λk hk=>(World.ownsRow.lt h k hk).1
theorem one_new(w:World)(x:Int):∀j u,([x].map (Value.int .u8))[j]?=some u->(w.alloc (.cells #[.int .u8 x] 5)).cell? ((⟨w.heap.size,0,none⟩:Addr).add j)=some u:=by
 intro j u h;cases j with
 |zero=>
  simp at h;subst h;rw[show(⟨w.heap.size,0,none⟩:Addr).add 0=⟨w.heap.size,0,none⟩from rfl,Ad _ _ _ _ _ _ (Aj w _)];rfl
 |succ j=>simp at h
theorem OwnB.len{w:World}{base:Nat}{v:Value}{bs:List Int}(h:OwnB w base v bs):lenOf v=bs.length:=by
 obtain⟨_,h2⟩:=h;rcases h2 with⟨hv,h2⟩|⟨g,cap,cur,hv,_⟩
 ·rw[hv,h2];rfl
 ·rw[hv];rfl
theorem Sd(n k:Nat)(hk:k<=zc n):((n+1+k)%32=24↔k=zc n):=by
 unfold zc at*;omega
theorem Qp(a:Option Addr)(len cap:Nat)(bs:List Int)(w:World)(hin:InB w a len cap bs)(hlen:bs.length<=140737488351232):
 Calls prog 65 #[.slice a len cap] w λe w'=>∃v',e= .returned v'/\OwnB w' w.heap.size v' (padded bs)/\Below w.heap.size w w':=by
 rcases hin with⟨rfl,rfl,rfl,rfl⟩|⟨ad,rfl,rfl,hc⟩
 ·have hm:Hid ((0:Nat)<=140737488351232):=AD _;go_enter func65,ntmps65
  go_wp2_with (first
   |(at_builtin;refine app_none rfl (.tmp 6) (.tmp 7) rfl w.heap.size _ [] rfl (OwnB.new w) rfl ?_)
   |(at_builtin;refine app_own rfl (.tmp 9) (.tmp 10) rfl w.heap.size _ [] rfl (OwnB.alloc (OwnB.new w) _) ⟨w.heap.size+1,0,none⟩ 1 1 [128] rfl rfl (by have:=one_new (w.alloc (.cells #[] 5)) 128;simpa using this) (by simp) (by simp;omega) ?_;intro v2 w2 o2 g2 n2))
  have b2:Below w.heap.size w w2:=(((Ak _ _).alloc (Aa _) _).alloc (by simp) _).grown g2 (by simp;omega) (OwnB.new w).lt;clear g2 n2;clear hm;obtain⟨bs,hbs⟩:∃bs:List Int,[]=bs:=⟨_,rfl⟩;have o3:OwnB w2 w.heap.size v2 (bs++[128]):=by rw[<-hbs];exact o2
  have hm:Hid (bs.length<=140737488351232):=by unfold Hid;rw[<-hbs];exact AD _
  have hbb:=ZQ hbs;clear hbs o2;have o2:=o3;clear o3;obtain⟨z,hz⟩:∃z,zc bs.length=z:=⟨_,rfl⟩;have hz31:z<=31:=by unfold zc at hz;omega
  have HZ:=ZQ hz;clear hz;have hli:(bs.length:Int)<=140737488351232:=by have:=hm.out;omega
  go_loopw [3] (λs v=>∃k:Nat,k<=z/\OwnB v w.heap.size s (bs++[128]++List.replicate k 0)/\Below w.heap.size w v) (λs _=>bs.length+1+z-lenOf s)
  case atStart=>exact⟨0,by omega,by simpa using o2,b2⟩
  case round=>
   clear o2 b2;obtain⟨k,hk,ow,bw⟩:=hrel;have hL:(bs++[128]++List.replicate k 0).length=bs.length+1+k:=(by rw[Ab,Ab,Bo];rfl);obtain⟨g,c,hv,hg0,hg1,hg2,hg3,_⟩:=ow.slice (by omega);rw[hL]at hv;have hz:=Sd bs.length k (by rw[HZ.out];exact hk);rw[HZ.out]at hz;subst hv;by_cases hlt:k=z
   ·have ht:((bs.length:Int)+1+(k:Int))%32=24:=(by have:=hz.2 hlt;omega);have ht2:(((bs.length:Int)+1+(k:Int))%32 !=24)=false:=(by rw[ht];rfl);clear hz hL hg0 hg1 hg2 hg3 ht;subst hlt;go_wp2_with fail
    go_loopw [3,5] (λs i v=>∃j:Nat,j<=8/\i= .int .i64 j/\OwnB v w.heap.size s (bs++[128]++List.replicate k 0++len8 bs.length j)/\Below w.heap.size w v) (λ_ i _=>8-(intOf i).toNat)
    case atStart=>exact⟨0,by omega,rfl,by simpa[len8]using ow,bw⟩
    case round=>
     clear ow bw;obtain⟨j,hj,rfl,ow,bw⟩:=hrel;have hL:(bs++[128]++List.replicate k 0++len8 bs.length j).length=bs.length+1+k+j:=(by rw[Ab,Ab,Ab,Bo,Ih];rfl);by_cases hlt:j<8
     ·have hbs:=bw.size
      go_wp2_with (first
       |(at_builtin;refine app_own rfl (.tmp 26) (.tmp 33) rfl w.heap.size _ (bs++[128]++List.replicate k 0++len8 bs.length j) rfl (ow.alloc _) ⟨wr.heap.size,0,none⟩ 1 1 [0] rfl rfl (one_new wr _) (by rw[hL];have:=hm.out;omega) (by simp;omega) ?_;intro v5 w5 o5 g5 n5))
      refine⟨⟨j+1,by omega,by go_num,?_,(bw.alloc (by omega) _).grown g5 (by simp;omega) (ow.lt)⟩,by simp[intOf];omega⟩;rw[<-MS,<-A9,show((bs.length:Int)/2^(56-8*j)%256)=0 from by rw[<-hbb.out];simp];exact o5
     ·have hj8:j=8:=(by omega);subst hj8;go_wp2;go_ret;refine⟨_,rfl,?_,bw⟩;rw[hbb.out];unfold padded;rw[HZ.out];exact ow
   ·have ht:(((bs.length:Int)+1+(k:Int))%32 !=24)=true:=by
     rw[BT];intro h;exact hlt (hz.1 (by omega))
    have hkz:k<z:=(by omega);clear hz hlt;have hbs:=bw.size
    go_wp2_with (first
     |(at_builtin;refine app_own rfl (.tmp 16) (.tmp 17) rfl w.heap.size _ (bs++[128]++List.replicate k 0) rfl (ow.alloc _) ⟨wr.heap.size,0,none⟩ 1 1 [0] rfl rfl (one_new wr 0) (by rw[hL];have:=hm.out;omega) (by simp;omega) ?_;intro v4 w4 o4 g4 n4))
    have e:bs++[128]++List.replicate k 0++[0]=bs++[128]++List.replicate (k+1) (0:Int):=(by rw[A9,<-List.replicate_succ']);rw[e]at o4;refine⟨⟨k+1,by omega,o4,(bw.alloc (by omega) _).grown g4 (by simp;omega) (ow.lt)⟩,?_⟩;rw[o4.len];simp[lenOf];omega
 ·have hc':∀j u,(bs.map (Value.int .u8))[j]?=some u->(w.alloc (.cells #[] 5)).cell? (ad.add j)=some u:=λj u h=>by
   exact(Ay (w:=w) (Az w _ _ (Af (hc j u h)))).trans (hc j u h)
  have HC:=ZQ hc';have hm:=ZQ hlen;clear hc hc' hlen;go_enter func65,ntmps65
  go_wp2_with (first
   |(at_builtin;refine app_own rfl (.tmp 6) (.tmp 7) rfl w.heap.size _ [] rfl (OwnB.new w) ad bs.length cap bs rfl rfl HC.out (by have:=hm.out;simp;omega) (by simp) ?_;intro v1 w1 o1 g1 n1;rw[AL]at o1)
   |(at_builtin;refine app_own rfl (.tmp 9) (.tmp 10) rfl w.heap.size _ bs rfl (OwnB.alloc o1 _) ⟨w1.heap.size,0,none⟩ 1 1 [128] rfl rfl (one_new w1 128) (by have:=hm.out;omega) (by have:=g1.size;simp at this;simp;omega) ?_;intro v2 w2 o2 g2 n2))
  have b2:Below w.heap.size w w2:=((((Ak _ _).alloc (Aa _) _).grown g1 (by simp) (OwnB.new w).lt).alloc (by have:=g1.size;simp at this;omega) _).grown g2 (by have:=g1.size;simp at this;simp;omega) (o1.lt);clear g1 g2 n1 n2 o1;obtain⟨z,hz⟩:∃z,zc bs.length=z:=⟨_,rfl⟩;have hz31:z<=31:=by unfold zc at hz;omega
  have HZ:=ZQ hz;clear hz;have hli:(bs.length:Int)<=140737488351232:=by have:=hm.out;omega
  go_loopw [3] (λs v=>∃k:Nat,k<=z/\OwnB v w.heap.size s (bs++[128]++List.replicate k 0)/\Below w.heap.size w v) (λs _=>bs.length+1+z-lenOf s)
  case atStart=>exact⟨0,by omega,by simpa using o2,b2⟩
  case round=>
   clear o2 b2;obtain⟨k,hk,ow,bw⟩:=hrel;have hL:(bs++[128]++List.replicate k 0).length=bs.length+1+k:=(by rw[Ab,Ab,Bo];rfl);obtain⟨g,c,hv,hg0,hg1,hg2,hg3,_⟩:=ow.slice (by omega);rw[hL]at hv;have hz:=Sd bs.length k (by rw[HZ.out];exact hk);rw[HZ.out]at hz;subst hv;by_cases hlt:k=z
   ·have ht:((bs.length:Int)+1+(k:Int))%32=24:=(by have:=hz.2 hlt;omega);have ht2:(((bs.length:Int)+1+(k:Int))%32 !=24)=false:=(by rw[ht];rfl);clear hz hL hg0 hg1 hg2 hg3 ht;subst hlt;go_wp2_with fail
    go_loopw [3,5] (λs i v=>∃j:Nat,j<=8/\i= .int .i64 j/\OwnB v w.heap.size s (bs++[128]++List.replicate k 0++len8 bs.length j)/\Below w.heap.size w v) (λ_ i _=>8-(intOf i).toNat)
    case atStart=>exact⟨0,by omega,rfl,by simpa[len8]using ow,bw⟩
    case round=>
     clear ow bw;obtain⟨j,hj,rfl,ow,bw⟩:=hrel;have hL:(bs++[128]++List.replicate k 0++len8 bs.length j).length=bs.length+1+k+j:=(by rw[Ab,Ab,Ab,Bo,Ih];rfl);by_cases hlt:j<8
     ·have hbs:=bw.size
      go_wp2_with (first
       |(at_builtin;refine app_own rfl (.tmp 26) (.tmp 33) rfl w.heap.size _ (bs++[128]++List.replicate k 0++len8 bs.length j) rfl (ow.alloc _) ⟨wr.heap.size,0,none⟩ 1 1 [(bs.length:Int)/2^(56-8*j)%256] rfl rfl (one_new wr _) (by rw[hL];have:=hm.out;omega) (by simp;omega) ?_;intro v5 w5 o5 g5 n5))
      refine⟨⟨j+1,by omega,by go_num,?_,(bw.alloc (by omega) _).grown g5 (by simp;omega) (ow.lt)⟩,by simp[intOf];omega⟩;rw[<-MS,<-A9];exact o5
     ·have hj8:j=8:=(by omega);subst hj8;go_wp2;go_ret;refine⟨_,rfl,?_,bw⟩;unfold padded;rw[HZ.out];exact ow
   ·have ht:(((bs.length:Int)+1+(k:Int))%32 !=24)=true:=by
     rw[BT];intro h;exact hlt (hz.1 (by omega))
    have hkz:k<z:=(by omega);clear hz hlt;have hbs:=bw.size
    go_wp2_with (first
     |(at_builtin;refine app_own rfl (.tmp 16) (.tmp 17) rfl w.heap.size _ (bs++[128]++List.replicate k 0) rfl (ow.alloc _) ⟨wr.heap.size,0,none⟩ 1 1 [0] rfl rfl (one_new wr 0) (by rw[hL];have:=hm.out;omega) (by simp;omega) ?_;intro v4 w4 o4 g4 n4))
    have e:bs++[128]++List.replicate k 0++[0]=bs++[128]++List.replicate (k+1) (0:Int):=(by rw[A9,<-List.replicate_succ']);rw[e]at o4;refine⟨⟨k+1,by omega,o4,(bw.alloc (by omega) _).grown g4 (by simp;omega) (ow.lt)⟩,?_⟩;rw[o4.len];simp[lenOf];omega
end Go.Proofs.YtefhepcplempkaaGreat.Di
namespace Go.Proofs.YtefhepcplempkaaGreat.Di
theorem YK:∃i,prog.info? 111=some i/\i.zero=some (.int .u64 0)/\i.size=1/\i.bytes=8:=by
 have h:(prog.info? 111).map (λi=>(i.zero,i.size,i.bytes))=some (some (.int .u64 0),1,8):=by kernel_rfl
 cases hq:prog.info? 111 with
 |none=>rw[hq]at h;simp at h
 |some i=>rw[hq]at h;simp at h;exact⟨i,rfl,h.1,h.2.1,h.2.2⟩
theorem Vl{w:World}{ops:Array Oper}{rest:List Oper}{o:Oper}{a:Act}{Q:Exit->Act->World->Prop}(hgd:o.guard=none)(s x:Operand)
 (ho:o.op= .call {callee:= .builtin .append,args:=#[s,x],argTypes:=#[118,118]}) (hs:a.eval s= .slice (some ⟨w.heap.size,0,none⟩) 0 0)
 (g:Nat) (hx:a.eval x= .slice (some ⟨g,0,none⟩) 4 4) (xa xb xc xd:Int) (hg:w.heap[g]?=some (.cells #[.int .u64 xa, .int .u64 xb, .int .u64 xc, .int .u64 xd] 111))
 (h:∀gp cap w',w.heap.size<=gp->gp<w'.heap.size->w'.cell? ⟨gp,0,none⟩=some (.int .u64 xa)->w'.cell? ⟨gp,1,none⟩=some (.int .u64 xb)->w'.cell? ⟨gp,2,none⟩=some (.int .u64 xc)->w'.cell? ⟨gp,3,none⟩=some (.int .u64 xd)->Below w.heap.size w w'->wpList prog ops Q rest (a.put o.dst (.slice (some ⟨gp,0,none⟩) 4 cap)) w'):
 wpList prog ops Q (o::rest) a (w.alloc (.cells #[] 111)):=by
 obtain⟨i,hi,hz,hsz,hby⟩:=YK;have hg':(w.alloc (.cells #[] 111)).heap[g]?=some (.cells #[.int .u64 xa, .int .u64 xb, .int .u64 xc, .int .u64 xd] 111):=(Az _ _ _ (lt_of_get hg)).trans hg;refine wpList_append_own _ hgd s x 118 ho w.heap.size 111 i (.int .u64 0) 1 8 underlying118 hi hz hsz hby rfl (by decide) _ 0 [] hs (World.ownsRow_made w #[] 0 (Aa _) (by unfold maxLen;omega) rfl) ⟨g,0,none⟩ 4 4 [.int .u64 xa, .int .u64 xb, .int .u64 xc, .int .u64 xd] hx rfl ?_ ?_ (by unfold maxLen;omega) (by omega) (by simp) ?_
 ·intro j u hu;have hadd:(⟨g,0,none⟩:Addr).add j=⟨g,j,none⟩:=by unfold Addr.add;split<;>simp_all
  rw[hadd,Ad _ _ _ _ _ _ hg',<-hu];rw[<-Dg]
 ·intro u hu;simp at hu;rcases hu with rfl|rfl|rfl|rfl<;>rfl
 ·intro v' w' h1 h2 h3;obtain⟨h4,h5⟩:=h1;rcases h5 with⟨_,h5⟩|⟨gp,cap,cur,rfl,hb,hh,hn,hcap,hcs,ht⟩
  ·omega
  ·have hc:∀j,j<4->w'.cell? ⟨gp,j,none⟩=[Value.int .u64 xa, .int .u64 xb, .int .u64 xc, .int .u64 xd][j]?:=by
    intro j hj;rw[Ad _ _ _ _ _ _ hh];have e:(cur.toList.take 4)[j]?=[Value.int .u64 xa, .int .u64 xb, .int .u64 xc, .int .u64 xd][j]?:=by
     have:=ht;simp at this;rw[this]
    rw[AO hj]at e;simpa using e
   exact h gp cap w' hb (lt_of_get hh) (hc 0 (by omega)) (hc 1 (by omega)) (hc 2 (by omega)) (hc 3 (by omega)) (((Ak _ _).alloc (Aa _) _).grown h2 (by simp) (λk hk=>by simp[Value.ownBlock]at hk;omega))
def wordsAt(bs:List Int)(p:Nat):S4:=⟨wd bs p 8,wd bs (p+8) 8,wd bs (p+16) 8,wd bs (p+24) 8⟩
def s0:S4:=⟨kk,wr (2*kk),wr (3*kk),wr (4*kk)⟩
def stOf(bs:List Int):Nat->S4
 |0=>s0
 |i+1=>mix (stOf bs i) (wordsAt bs (32*i))
def mAt(m:S4)(k:Nat):Int:=if k%4=0 then m.a else if k%4=1 then m.b else if k%4=2 then m.c else m.d
def rk(s m:S4):Nat->S4
 |0=>xor4 s m
 |k+1=>rnd (rk s m k) (wr (mAt m k+wr ((k+1:Nat)*kk)))
theorem YL(s m:S4):xor4 (rk s m 8) s=mix s m:=rfl
structure OfW(N gt gs:Nat)(w0 w:World)(ps:List Int)(S:S4):Prop where
 h0:w.heap[N]?=some (.cells (B8 (List.replicate 32 0)) 35)
 ht:∀j,j<ps.length->w.cell? ⟨gt,j,none⟩=some (.int .u8 (ps.getD j 0))
 hs:w.heap[gs]?=some (.cells (V4 S) 111)
 gtl:gt<w.heap.size
 gsl:N<gs
 bel:Below N w0 w
theorem OfW.call{N gt gs:Nat}{w0 w w':World}{ps:List Int}{S:S4}(h:OfW N gt gs w0 w ps S)(hb:Below w.heap.size w w'):OfW N gt gs w0 w' ps S:=by
 have l0:=lt_of_get h.h0;have l1:=lt_of_get h.hs;exact⟨(hb.block _ l0).trans h.h0,λj hj=>(hb.cell (p:=⟨gt,j,none⟩) h.gtl).trans (h.ht j hj),(hb.block _ l1).trans h.hs,B7 h.gtl hb.size,h.gsl,h.bel.trans (hb.mono (by omega))⟩
theorem OfW.drewN{N gt gs:Nat}{w0 w:World}{ps:List Int}{S:S4}(h:OfW N gt gs w0 w ps S)(n:Nat):OfW N gt gs w0 (w.drewN n) ps S:=⟨h.h0,h.ht,h.hs,h.gtl,h.gsl,below_drewN h.bel n⟩
theorem OfW.alloc{N gt gs:Nat}{w0 w:World}{ps:List Int}{S:S4}(h:OfW N gt gs w0 w ps S)(o:Obj):OfW N gt gs w0 (w.alloc o) ps S:=h.call ((Ak _ _).alloc (Aa _) _)
theorem OfW.state{N gt gs:Nat}{w0 w:World}{ps:List Int}{S:S4}(h:OfW N gt gs w0 w ps S)(S':S4):OfW N gt w.heap.size w0 (w.alloc (.cells (V4 S') 111)) ps S':=by
 have a:=h.alloc (.cells (V4 S') 111);have l0:=lt_of_get h.h0;exact⟨a.h0,a.ht,Aj _ _,a.gtl,l0,a.bel⟩
theorem InB.alloc{w:World}{a:Option Addr}{len cap:Nat}{bs:List Int}(h:InB w a len cap bs)(o:Obj):InB (w.alloc o) a len cap bs:=by
 rcases h with h|⟨ad,h1,h2,h3⟩
 ·exact .inl h
 ·exact .inr ⟨ad,h1,h2,λj u hu=>(Ay (w:=w) (Az w _ _ (Af (h3 j u hu)))).trans (h3 j u hu)⟩
theorem Gy(bs:List Int):(padded bs).length=bs.length+1+zc bs.length+8:=by
 unfold padded;rw[Ab,Ab,Ab,Bo,Ih];rfl
theorem Qq(bs:List Int):(padded bs).length%32=0/\0<(padded bs).length:=by
 rw[Gy];unfold zc;omega
theorem My(bs:List Int)(h:∀x∈bs,0<=x/\x<256):∀x∈padded bs,0<=x/\x<256:=by
 intro x hx;unfold padded at hx;simp only[Bc]at hx;rcases hx with((hx|hx)|hx)|hx
 ·exact h x hx
 ·simp at hx;omega
 ·rw[(Dk.1 hx).2];omega
 ·unfold len8 at hx;obtain⟨i,_,rfl⟩:=BD.1 hx;omega
structure OfM(N gt gs gp gm:Nat)(w0 w:World)(ps:List Int)(S M:S4):Prop where
 f:OfW N gt gs w0 w ps S
 hm:w.heap[gm]?=some (.cells (V4 M) 111)
 p0:w.cell? ⟨gp,0,none⟩=some (.int .u64 S.a)
 p1:w.cell? ⟨gp,1,none⟩=some (.int .u64 S.b)
 p2:w.cell? ⟨gp,2,none⟩=some (.int .u64 S.c)
 p3:w.cell? ⟨gp,3,none⟩=some (.int .u64 S.d)
theorem Xj{N gt gs gp:Nat}{w0 w:World}{ps:List Int}{S:S4}(M:S4)(h:OfW N gt gs w0 w ps S)(hd:w.cell? ⟨gp,0,none⟩=some (.int .u64 S.a)/\w.cell? ⟨gp,1,none⟩=some (.int .u64 S.b)/\w.cell? ⟨gp,2,none⟩=some (.int .u64 S.c)/\w.cell? ⟨gp,3,none⟩=some (.int .u64 S.d)):
 OfM N gt gs gp w.heap.size w0 (w.alloc (.cells (V4 M) 111)) ps S M:=by
 obtain⟨d0,d1,d2,d3⟩:=hd;have l:=Af d0;have e:∀j,(w.alloc (.cells (V4 M) 111)).cell? ⟨gp,j,none⟩=w.cell? ⟨gp,j,none⟩:=λj=>Ay (w:=w) (Az w _ _ l);exact⟨h.alloc _,Aj _ _,by rw[e,d0],by rw[e,d1],by rw[e,d2],by rw[e,d3]⟩
theorem OfM.drewN{N gt gs gp gm:Nat}{w0 w:World}{ps:List Int}{S M:S4}(h:OfM N gt gs gp gm w0 w ps S M)(n:Nat):OfM N gt gs gp gm w0 (w.drewN n) ps S M:=⟨h.f.drewN n,h.hm,h.p0,h.p1,h.p2,h.p3⟩
theorem gen_w{V:World}{p q:World->Prop}(F:q V)(h:∀v,q v->p v):p V:=h V F
def kx(k:Nat):Int:=wr ((k:Int)*kk)
theorem FG(x:Int)(k:Nat)(h:x=kx k):IntKind.u64.wrap (x+11400714819323198485)=kx (k+1):=by
 subst h;unfold kx wr kk;simp only[C0];omega
theorem Xk:Hid ((0:Int)=kx 0):=by
 unfold Hid kx wr;rw[C0];simp
theorem NZ(ra rb mm ad:Int):IntKind.u64.wrap (IntKind.u64.wrap (IntKind.u64.wrap (ra+rb)+mm)+ad)=wr (ra+wr (rb+wr (mm+ad))):=by
 unfold wr;simp only[C0];omega
theorem Oa(ra rb rc rd X A D C B A2 D2 C2 B2:Int)(hA:A=wr (ra+wr (rb+X)))(hD:D=rotl (bits BinOp.xor IntKind.u64 rd A) 32)(hC:C=IntKind.u64.wrap (rc+D))(hB:B=rotl (bits BinOp.xor IntKind.u64 rb C) 24)
 (hA2:A2=IntKind.u64.wrap (A+B)) (hD2:D2=rotl (bits BinOp.xor IntKind.u64 D A2) 16) (hC2:C2=IntKind.u64.wrap (C+D2)) (hB2:B2=rotl (bits BinOp.xor IntKind.u64 B C2) 63):S4.mk B2 C2 D2 A2=rnd ⟨ra,rb,rc,rd⟩ X:=by
 subst hB2 hC2 hD2 hA2 hB hC hD hA;rfl
theorem Ld{S M:S4}{k:Nat}{r r':S4}{ad mm:Int}(h:r=rk S M k)(had:ad=kx (k+1))(hmm:mAt M k=mm)(h':r'=rnd r (wr (mm+ad))):r'=rk S M (k+1):=by
 rw[h',h,had,<-hmm];rfl
theorem OfW.drew{N gt gs:Nat}{w0 w:World}{ps:List Int}{S:S4}(h:OfW N gt gs w0 w ps S):OfW N gt gs w0 w.drew ps S:=⟨h.h0,h.ht,h.hs,h.gtl,h.gsl,h.bel.drew⟩
theorem OfM.drew{N gt gs gp gm:Nat}{w0 w:World}{ps:List Int}{S M:S4}(h:OfM N gt gs gp gm w0 w ps S M):OfM N gt gs gp gm w0 w.drew ps S M:=⟨h.f.drew,h.hm,h.p0,h.p1,h.p2,h.p3⟩
theorem OfM.alloc{N gt gs gp gm:Nat}{w0 w:World}{ps:List Int}{S M:S4}(h:OfM N gt gs gp gm w0 w ps S M)(o:Obj):OfM N gt gs gp gm w0 (w.alloc o) ps S M:=by
 have l:=Af h.p0;have e:∀j,(w.alloc o).cell? ⟨gp,j,none⟩=w.cell? ⟨gp,j,none⟩:=λj=>Ay (w:=w) (Az w _ _ l);exact⟨h.f.alloc _,(Az _ _ _ (lt_of_get h.hm)).trans h.hm,by rw[e,h.p0],by rw[e,h.p1],by rw[e,h.p2],by rw[e,h.p3]⟩
theorem Vm{N gt gs gp gm:Nat}{w0 w:World}{ps:List Int}{sa sb sc sd:Int}{M:S4}(h:OfM N gt gs gp gm w0 w ps ⟨sa,sb,sc,sd⟩ M):(w.cell? ⟨gp,0,none⟩=some (.int .u64 sa)/\w.cell? ⟨gp,1,none⟩=some (.int .u64 sb)/\w.cell? ⟨gp,2,none⟩=some (.int .u64 sc)/\w.cell? ⟨gp,3,none⟩=some (.int .u64 sd))/\OfM N gt gs gp gm w0 w ps ⟨sa,sb,sc,sd⟩ M:=⟨⟨h.p0,h.p1,h.p2,h.p3⟩,h⟩
theorem Xl{ps:List Int}{i:Nat}{S M r:S4}(hS:S=stOf ps i)(hM:M=wordsAt ps (32*i))(hr:r=rk S M 8):xor4 r S=stOf ps (i+1):=by
 rw[hr,YL,hS,hM];rfl
structure Ex(N gs go:Nat)(w0 w:World)(sa sb sc sd:Int)(ds:List Int):Prop where
 h0:w.heap[N]?=some (.cells (B8 (List.replicate 32 0)) 35)
 hs:w.heap[gs]?=some (.cells (V4 ⟨sa,sb,sc,sd⟩) 111)
 ho:w.heap[go]?=some (.cells (B8 ds) 35)
 bel:Below N w0 w
theorem Ex.setO{N gs go:Nat}{w0 w:World}{sa sb sc sd:Int}{ds:List Int}(h:Ex N gs go w0 w sa sb sc sd ds)(hgs:¬gs=go)(hgo:N<go)(k:Nat)(x:Int):Ex N gs go w0 (w.setCell ⟨go,k,none⟩ (.int .u8 x)) sa sb sc sd (ds.set k x):=
 ⟨(AC _ _ _ _ (by simp;omega)).trans h.h0,(AC _ _ _ _ hgs).trans h.hs,by rw[AX w go k _ 35 _ h.ho,Qm],h.bel.setCell (by simp;omega) _⟩
theorem YM:V4 s0=#[.int .u64 11400714819323198485, .int .u64 (IntKind.u64.wrap 22801429638646396970), .int .u64 (IntKind.u64.wrap (IntKind.u64.wrap 22801429638646396970+11400714819323198485)), .int .u64 (IntKind.u64.wrap (IntKind.u64.wrap (IntKind.u64.wrap 22801429638646396970+11400714819323198485)+11400714819323198485))]:=by
 have e2:wr (2*kk)=IntKind.u64.wrap 22801429638646396970:=rfl;have e3:wr (3*kk)=IntKind.u64.wrap (IntKind.u64.wrap 22801429638646396970+11400714819323198485):=by
  unfold wr kk;simp only[C0];omega
 have e4:wr (4*kk)=IntKind.u64.wrap (IntKind.u64.wrap (IntKind.u64.wrap 22801429638646396970+11400714819323198485)+11400714819323198485):=by
  unfold wr kk;simp only[C0];omega
 unfold V4 s0;simp only[e2,e3,e4];rfl
theorem Le(g len cap:Nat)(p:Int)(at_:Nat)(bs:List Int)(w:World)(hp:p=at_)(hlen:at_+8<=len)(hm:len<=maxLen)
 (hc:∀k,k<8->w.cell? ⟨g,at_+k,none⟩=some (.int .u8 (bs.getD (at_+k) 0))) (hb:∀k,k<8->0<=bs.getD (at_+k) 0/\bs.getD (at_+k) 0<256):
 Calls prog 66 #[.slice (some ⟨g,0,none⟩) len cap, .int .i64 p] w λe w'=>e= .returned (.int .u64 (wd bs at_ 8))/\w'=w:=by
 subst hp;exact Vj g len cap at_ bs w hlen hm hc hb
set_option maxRecDepth 100000 in
theorem rof_any(a:Option Addr)(len cap:Nat)(bs:List Int)(w:World)(hin:InB w a len cap bs)(hb:∀x∈bs,0<=x/\x<256)(hlen:bs.length<=140737488351232):
 Calls prog 41 #[.slice a len cap] w λe w'=>e= .returned (.agg (B8 (dig (stOf (padded bs) ((padded bs).length/32)))))/\Below w.heap.size w w':=by
 have hpad:=λv=>Qp a len cap bs v;have HP:=ZQ hpad;clear hpad;have hin':∀o,InB (w.alloc o) a len cap bs:=λo=>hin.alloc o;have HIN:=ZQ hin';have HL:=ZQ hlen;have HB:=ZQ hb;clear hin' hin hlen hb;go_enter func41,ntmps41;go_wp2_with fail;refine(HP.out _ (HIN.out _) HL.out).mono ?_;rintro e w1⟨v1,rfl,ow,hb1⟩;have hlen32:=Gy bs;have hpb:=ZQ (My bs HB.out);have hpm:(padded bs).length<=140737488352000:=by rw[hlen32];have:=HL.out;unfold zc;omega
 have hpm2:=ZQ (Qq bs);generalize hps:padded bs=ps at ow hpb hpm hpm2;have HPS:=ZQ hps;clear hps;clear hlen32 HB HIN HL HP;obtain⟨q,hq⟩:∃q,ps.length=32*q:=⟨ps.length/32,by have:=hpm2.out;omega⟩;obtain⟨gt,ct,rfl,hg0,hg1,hg2,hg3,hct⟩:=ow.slice (by have:=hpm2.out;omega);have hct2:=ZQ hct;clear hct ow hg0;have hN:w1.heap[w.heap.size]?=some (.cells (B8 (List.replicate 32 0)) 35):=Below.row hb1 (Aj w _);have F0:OfW w.heap.size gt w1.heap.size w (w1.alloc (.cells (V4 s0) 111)) ps s0:=by
  have l0:=lt_of_get hN;refine⟨(Az _ _ _ l0).trans hN,λj hj=>(Ay (w:=w1) (Az w1 _ _ hg1)).trans (hct2.out j hj),Aj _ _,by simp;omega,l0,?_⟩;exact(((Ak _ _).alloc (Aa _) _).trans (hb1.mono (by simp))).alloc (by omega) _
 clear hN hct2;have hq1:32*q<=140737488352000:=by omega
 have HQ:=ZQ hq;go_wp2_with fail
 go_loopw [5,6] (λs t v=>∃(i gs:Nat)(S:S4),i<=q/\t= .int .i64 (32*(i:Int))/\s= .slice (some ⟨gs,0,none⟩) 4 4/\Hid (S=stOf ps i)/\OfW w.heap.size gt gs w v ps S) (λ_ t _=>32*q-(intOf t).toNat)
 case atStart=>
  refine⟨0,w1.heap.size,s0,by omega,rfl,rfl,rfl,?_⟩;rw[YM]at F0;exact F0
 case round=>
  clear F0;obtain⟨i,gs,⟨sa,sb,sc,sd⟩,hi,rfl,rfl,HS,F⟩:=hrel;by_cases hlt:i<q
  ·have hg:=F.hs;have hg':wr.heap[gs]?=some (.cells #[.int .u64 sa, .int .u64 sb, .int .u64 sc, .int .u64 sd] 111):=hg;have HG:=ZQ hg';clear hg hg';go_wp2_with (first|(at_builtin;refine Vl rfl (.tmp 43) (.tmp 44) rfl rfl gs rfl sa sb sc sd HG.out ?_;intro gp cp w2 hgp0 hgp1 d0 d1 d2 d3 hb2));have F2:=F.call hb2;have hsz2:=hb2.size;have HD:=ZQ (And.intro d0 (And.intro d1 (And.intro d2 d3)));clear d0 d1 d2 d3 hb2;have hcb:∀p,p+8<=32*q->∀k,k<8->0<=ps.getD (p+k) 0/\ps.getD (p+k) 0<256:=λp hp k hk=>hpb.out _ (getD_mem ps _ (by rw[HQ.out];omega));have HCB:=ZQ hcb;clear hcb;refine(Le gt (32*q) ct _ (32*i) ps _ (by omega) (by omega) (by unfold maxLen;omega) (λk hk=>F2.ht _ (by rw[HQ.out];omega)) (HCB.out (32*i) (by omega))).mono ?_;rintro e w3⟨rfl,rfl⟩;obtain⟨ma,hma⟩:∃x,wd ps (32*i) 8=x:=⟨_,rfl⟩;rw[hma];have Hma:=ZQ hma;clear hma;go_wp2_with fail;refine(Le gt (32*q) ct _ (32*i+8) ps _ (by omega) (by omega) (by unfold maxLen;omega) (λk hk=>F2.ht _ (by rw[HQ.out];omega)) (HCB.out (32*i+8) (by omega))).mono ?_;rintro e w3⟨rfl,rfl⟩;obtain⟨mb,hmb⟩:∃x,wd ps (32*i+8) 8=x:=⟨_,rfl⟩;rw[hmb];have Hmb:=ZQ hmb;clear hmb;go_wp2_with fail;refine(Le gt (32*q) ct _ (32*i+16) ps _ (by omega) (by omega) (by unfold maxLen;omega) (λk hk=>F2.ht _ (by rw[HQ.out];omega)) (HCB.out (32*i+16) (by omega))).mono ?_;rintro e w3⟨rfl,rfl⟩;obtain⟨mc,hmc⟩:∃x,wd ps (32*i+16) 8=x:=⟨_,rfl⟩;rw[hmc];have Hmc:=ZQ hmc;clear hmc;go_wp2_with fail;refine(Le gt (32*q) ct _ (32*i+24) ps _ (by omega) (by omega) (by unfold maxLen;omega) (λk hk=>F2.ht _ (by rw[HQ.out];omega)) (HCB.out (32*i+24) (by omega))).mono ?_;rintro e w3⟨rfl,rfl⟩;obtain⟨md,hmd⟩:∃x,wd ps (32*i+24) 8=x:=⟨_,rfl⟩;rw[hmd];have Hmd:=ZQ hmd;clear hmd;go_wp2_with fail;have G:=Xj (S:=⟨sa,sb,sc,sd⟩) ⟨ma,mb,mc,md⟩ F2 HD.out;clear F F2 HD HCB HG;obtain⟨gm,hgm⟩:∃gm,w3.heap.size=gm:=⟨_,rfl⟩;rw[hgm]at G⊢;refine gen_w (p:=λv=>Code.wp _ _ _ _ v) (q:=λv=>OfM w.heap.size gt gs gp gm w v ps ⟨sa,sb,sc,sd⟩ ⟨ma,mb,mc,md⟩) G ?_;clear G hgm hsz2 hgp0 hgp1 w3;intro v G;obtain⟨c0,c1,c2,c3,cf⟩:=Da (show v.heap[gs]?=some (.cells #[.int .u64 sa, .int .u64 sb, .int .u64 sc, .int .u64 sd] 111)from G.f.hs);obtain⟨e0,e1,e2,e3,ef⟩:=Da (show v.heap[gm]?=some (.cells #[.int .u64 ma, .int .u64 mb, .int .u64 mc, .int .u64 md] 111)from G.hm);clear cf ef
   go_quiet (fail)
   go_wp2_with fail
   go_quiet (fail)
   go_wp2_with fail
   go_quiet (fail)
   go_wp2_with fail
   go_quiet (fail)
   go_wp2_with fail;clear c0 c1 c2 c3 e0 e1 e2 e3
   go_loopw [9,10,11,12,13,14] (λta tb tc td tx tk v=>∃(k:Nat)(ra rb rc rd x:Int),k<=8/\tk= .int .i64 k/\ta= .int .u64 ra/\tb= .int .u64 rb/\tc= .int .u64 rc/\td= .int .u64 rd/\tx= .int .u64 x/\Hid (S4.mk ra rb rc rd=rk ⟨sa,sb,sc,sd⟩ ⟨ma,mb,mc,md⟩ k)/\Hid (x=kx k)/\OfM w.heap.size gt gs gp gm w v ps ⟨sa,sb,sc,sd⟩ ⟨ma,mb,mc,md⟩) (λ_ _ _ _ _ tk _=>8-(intOf tk).toNat)
   case atStart=>exact⟨0,_,_,_,_,_,by omega,rfl,rfl,rfl,rfl,rfl,rfl,rfl,Xk,(((G.drewN _).drewN _).drewN _).drewN _⟩
   case round=>
    clear G;obtain⟨k,ra,rb,rc,rd,x,hk,rfl,rfl,rfl,rfl,rfl,rfl,HR,HX,G⟩:=hrel;by_cases hk8:k<8
    ·obtain⟨e0,e1,e2,e3,ef⟩:=Da (show wr.heap[gm]?=some (.cells #[.int .u64 ma, .int .u64 mb, .int .u64 mc, .int .u64 md] 111)from G.hm);clear ef;have hc:k%4=0∨k%4=1∨k%4=2∨k%4=3:=(by omega);rcases hc with hc|hc|hc|hc
     ·have hq4:(k:Int)%4=0:=(by omega);have hmm:=ZQ (show mAt ⟨ma,mb,mc,md⟩ k=ma from by simp[mAt,hc]);clear hc;go_wp2_with (first|(go_at_call 67;refine(Xh _ _ _ (by omega) (by omega)).mono ?_;rintro e w'⟨rfl,nn,rfl⟩));refine⟨⟨k+1,_,_,_,_,_,by omega,by go_num,rfl,rfl,rfl,rfl,rfl,Ld HR.out (FG _ _ HX.out) hmm.out (Oa ra rb rc rd _ _ _ _ _ _ _ _ _ (NZ _ _ _ _) rfl rfl rfl rfl rfl rfl rfl),FG _ _ HX.out,?_⟩,by simp[intOf];omega⟩
      repeat(first|exact G|refine OfM.drewN ?_ _)
     ·have hq4:(k:Int)%4=1:=(by omega);have hmm:=ZQ (show mAt ⟨ma,mb,mc,md⟩ k=mb from by simp[mAt,hc]);clear hc;go_wp2_with (first|(go_at_call 67;refine(Xh _ _ _ (by omega) (by omega)).mono ?_;rintro e w'⟨rfl,nn,rfl⟩));refine⟨⟨k+1,_,_,_,_,_,by omega,by go_num,rfl,rfl,rfl,rfl,rfl,Ld HR.out (FG _ _ HX.out) hmm.out (Oa ra rb rc rd _ _ _ _ _ _ _ _ _ (NZ _ _ _ _) rfl rfl rfl rfl rfl rfl rfl),FG _ _ HX.out,?_⟩,by simp[intOf];omega⟩
      repeat(first|exact G|refine OfM.drewN ?_ _)
     ·have hq4:(k:Int)%4=2:=(by omega);have hmm:=ZQ (show mAt ⟨ma,mb,mc,md⟩ k=mc from by simp[mAt,hc]);clear hc;go_wp2_with (first|(go_at_call 67;refine(Xh _ _ _ (by omega) (by omega)).mono ?_;rintro e w'⟨rfl,nn,rfl⟩));refine⟨⟨k+1,_,_,_,_,_,by omega,by go_num,rfl,rfl,rfl,rfl,rfl,Ld HR.out (FG _ _ HX.out) hmm.out (Oa ra rb rc rd _ _ _ _ _ _ _ _ _ (NZ _ _ _ _) rfl rfl rfl rfl rfl rfl rfl),FG _ _ HX.out,?_⟩,by simp[intOf];omega⟩
      repeat(first|exact G|refine OfM.drewN ?_ _)
     ·have hq4:(k:Int)%4=3:=(by omega);have hmm:=ZQ (show mAt ⟨ma,mb,mc,md⟩ k=md from by simp[mAt,hc]);clear hc;go_wp2_with (first|(go_at_call 67;refine(Xh _ _ _ (by omega) (by omega)).mono ?_;rintro e w'⟨rfl,nn,rfl⟩));refine⟨⟨k+1,_,_,_,_,_,by omega,by go_num,rfl,rfl,rfl,rfl,rfl,Ld HR.out (FG _ _ HX.out) hmm.out (Oa ra rb rc rd _ _ _ _ _ _ _ _ _ (NZ _ _ _ _) rfl rfl rfl rfl rfl rfl rfl),FG _ _ HX.out,?_⟩,by simp[intOf];omega⟩
      repeat(first|exact G|refine OfM.drewN ?_ _)
    ·have hk2:k=8:=(by omega);subst hk2;clear hk hk8;obtain⟨p0,p1,p2,p3⟩:=And.intro G.p0 (And.intro G.p1 (And.intro G.p2 G.p3));have HM:Hid (S4.mk ma mb mc md=wordsAt ps (32*i)):=(by unfold Hid wordsAt;rw[Hma.out,Hmb.out,Hmc.out,Hmd.out]);have HN:=ZQ (Xl HS.out HM.out HR.out);clear HM HS HR HX Hma Hmb Hmc Hmd;go_wp2_with fail
     go_region_held3 (λv=>(v.cell? ⟨gp,0,none⟩=some (.int .u64 sa)/\v.cell? ⟨gp,1,none⟩=some (.int .u64 sb)/\v.cell? ⟨gp,2,none⟩=some (.int .u64 sc)/\v.cell? ⟨gp,3,none⟩=some (.int .u64 sd))/\OfM w.heap.size gt gs gp gm w v ps ⟨sa,sb,sc,sd⟩ ⟨ma,mb,mc,md⟩)
      ((first|exact Vm G.drew|exact Vm (G.alloc _).drew|exact Vm (G.drew.alloc _)))
      (fail)
     go_wp2_with fail;refine⟨⟨i+1,wr.heap.size,xor4 ⟨ra,rb,rc,rd⟩ ⟨sa,sb,sc,sd⟩,by omega,by go_num,rfl,HN.out,(G.f.state (xor4 ⟨ra,rb,rc,rd⟩ ⟨sa,sb,sc,sd⟩)).drew⟩,by simp[intOf];omega⟩
  ·have hiq:i=q:=(by omega);subst hiq;have hfin:Hid (dig ⟨sa,sb,sc,sd⟩=dig (stOf ps (ps.length/32))):=(by unfold Hid;rw[HS.out,HQ.out,Nat.mul_div_cancel_left i (by omega)]);clear HS HQ;have hN:=F.h0;have hgN:=F.gsl;have hbel:=F.bel;have l0:=lt_of_get hN;have l1:=lt_of_get F.hs;have K0:Ex w.heap.size gs wr.heap.size w (wr.alloc (.cells (B8 (List.replicate 32 0)) 35)) sa sb sc sd (List.replicate 32 0):=⟨(Az _ _ _ l0).trans hN,(Az _ _ _ l1).trans F.hs,Aj _ _,hbel.alloc (by omega) _⟩;have hNe:¬wr.heap.size=w.heap.size:=(by omega);clear hN hbel F;obtain⟨go,hgo⟩:∃go,wr.heap.size=go:=⟨_,rfl⟩;rw[hgo]at K0 hNe;have hgoN:w.heap.size<go:=(by omega);have hgs:¬gs=go:=(by omega);go_wp2_with fail;refine gen_w (p:=λv=>Code.wp _ _ _ _ v) (q:=λv=>Ex w.heap.size gs go w v sa sb sc sd (List.replicate 32 0)) K0 ?_;clear K0 hgo l0 l1 hgN hNe;intro v K0
   go_loopw [17] (λt v=>∃k:Nat,k<=32/\t= .int .i64 k/\Ex w.heap.size gs go w v sa sb sc sd (digk ⟨sa,sb,sc,sd⟩ k)) (λt _=>32-(intOf t).toNat)
   case atStart=>exact⟨0,by omega,rfl,K0⟩
   case round=>
    clear K0;obtain⟨k,hk,rfl,R⟩:=hrel;by_cases hlt:k<32
    ·obtain⟨p,q,r,s,f⟩:=Da (show wr.heap[gs]?=some (.cells #[.int .u64 sa, .int .u64 sb, .int .u64 sc, .int .u64 sd] 111)from R.hs);clear f;have hcell:=NT R.ho k (by rw[Ky];omega);have hfr:=AY _ _ k _ _ R.ho;generalize (digk ⟨sa,sb,sc,sd⟩ k).getD k 0=y at hcell;have hc:k<8∨(8<=k/\k<16)∨(16<=k/\k<24)∨24<=k:=(by omega);rcases hc with hc|hc|hc|hc
     ·have hq:(k:Int)/8=0:=(by omega);have T:=R.setO hgs (by omega) k (bt (sel ⟨sa,sb,sc,sd⟩ k) k);have e:sel ⟨sa,sb,sc,sd⟩ k=sa:=(by simp[sel,hc]);rw[Fc,e]at T;clear e;go_wp2_with fail;exact⟨⟨k+1,by omega,by go_num,T⟩,by simp[intOf];omega⟩
     ·have hq:(k:Int)/8=1:=(by omega);have T:=R.setO hgs (by omega) k (bt (sel ⟨sa,sb,sc,sd⟩ k) k);have e:sel ⟨sa,sb,sc,sd⟩ k=sb:=(by simp[sel,show¬k<8 from by omega,show k<16 from by omega]);rw[Fc,e]at T;clear e;go_wp2_with fail;exact⟨⟨k+1,by omega,by go_num,T⟩,by simp[intOf];omega⟩
     ·have hq:(k:Int)/8=2:=(by omega);have T:=R.setO hgs (by omega) k (bt (sel ⟨sa,sb,sc,sd⟩ k) k);have e:sel ⟨sa,sb,sc,sd⟩ k=sc:=(by simp[sel,show¬k<8 from by omega,show¬k<16 from by omega,show k<24 from by omega]);rw[Fc,e]at T;clear e;go_wp2_with fail;exact⟨⟨k+1,by omega,by go_num,T⟩,by simp[intOf];omega⟩
     ·have hq:(k:Int)/8=3:=(by omega);have T:=R.setO hgs (by omega) k (bt (sel ⟨sa,sb,sc,sd⟩ k) k);have e:sel ⟨sa,sb,sc,sd⟩ k=sd:=(by simp[sel,show¬k<8 from by omega,show¬k<16 from by omega,show¬k<24 from by omega]);rw[Fc,e]at T;clear e;go_wp2_with fail;exact⟨⟨k+1,by omega,by go_num,T⟩,by simp[intOf];omega⟩
    ·have hk2:k=32:=(by omega);subst hk2;rw[OU,hfin.out]at R;generalize hds:dig (stOf ps (ps.length/32))=ds at R;have hdl:ds.length=32:=(by rw[<-hds];simp[dig]);have HD:=ZQ hds;clear hds hfin;have HI2:Hid ((prog.info? 35).map (·.size)=some (B8 ds).size):=(by unfold Hid;rw[B8_size,hdl];kernel_rfl);have HO:=ZQ R.ho;have HN:=ZQ R.h0;go_wp2_with (first|refine EU rfl 35 _ rfl _ rfl 35 _ _ _ HO.out underlying35 rfl HI2.out ?_|refine A7 rfl 35 _ _ rfl _ (B8 ds) rfl rfl 35 _ HN.out HI2.out (by rw[B8_size,B8_size,hdl,Bo]) (B8_one _) ?_);refine Aq (Bg results41 _ _ w.heap.size 35 (B8 ds) (0,0) _ rfl (AE _ _ _ _ _ _ HN.out) underlying35 rfl HI2.out) rfl ?_;exact⟨by rw[HPS.out,HD.out],Below.setRow R.bel (Aa _) _⟩
end Go.Proofs.YtefhepcplempkaaGreat.Di
namespace Go.Proofs.YtefhepcplempkaaGreat.Di
theorem To(w:World):Calls prog 62 #[] w λe w'=>(∃a b c d,e= .returned (.agg #[.int .u64 a, .int .u64 b, .int .u64 c, .int .u64 d])/\Hid (S4.mk a b c d=s0))/\Below w.heap.size w w':=by
 go_enter func62,ntmps62;go_wp2
 go_returns
 refine⟨⟨_,_,_,_,rfl,rfl⟩,?_⟩
 repeat' (first|refine Below.setCell ?_ (by simp<;>omega) _|refine below_drewN ?_ _|refine Below.alloc ?_ (by simp<;>omega) _|exact Ak _ _)
theorem Xm(a b c d:Int):HC ⟨a,b,c,d⟩ (List.replicate 32 0) 0=#[.int .u64 a, .int .u64 b, .int .u64 c, .int .u64 d, .int .u8 0, .int .u8 0, .int .u8 0, .int .u8 0, .int .u8 0, .int .u8 0, .int .u8 0, .int .u8 0, .int .u8 0, .int .u8 0, .int .u8 0, .int .u8 0, .int .u8 0, .int .u8 0, .int .u8 0, .int .u8 0, .int .u8 0, .int .u8 0, .int .u8 0, .int .u8 0, .int .u8 0, .int .u8 0, .int .u8 0, .int .u8 0, .int .u8 0, .int .u8 0, .int .u8 0, .int .u8 0, .int .u8 0, .int .u8 0, .int .u8 0, .int .u8 0, .int .i64 0]:=by kernel_rfl
theorem YN(s:S4)(tl:List Int)(n:Nat):(HC s tl n).all (·.oneCell')=true:=by
 simp[HC,B8,Value.oneCell']
structure OfH(N g:Nat)(w0 w:World)(s:S4)(tl:List Int)(n:Nat):Prop where
 h0:w.heap[N]?=some (.cells (B8 (List.replicate 32 0)) 35)
 hg:w.heap[g]?=some (.cells (HC s tl n) 115)
 bel:Below N w0 w
 lt:N<g
end Go.Proofs.YtefhepcplempkaaGreat.Di
namespace Go.Proofs.YtefhepcplempkaaGreat.Di
structure Touch(g:Nat)(w w':World):Prop where
 os:w'.os=w.os
 tape:w'.tape=w.tape
 output:w'.output=w.output
 size:w.heap.size<=w'.heap.size
 block:∀k,k<w.heap.size->k≠g->w'.heap[k]?=w.heap[k]?
theorem Touch.refl(g:Nat)(w:World):Touch g w w:=⟨rfl,rfl,rfl,Aa _,λ_ _ _=>rfl⟩
theorem Touch.trans{g:Nat}{a b c:World}(h:Touch g a b)(k:Touch g b c):Touch g a c:=
 ⟨k.os.trans h.os,k.tape.trans h.tape,k.output.trans h.output,Ar h.size k.size,λi hi hg=>(k.block i (B7 hi h.size) hg).trans (h.block i hi hg)⟩
theorem Touch.of_below{g:Nat}{a b:World}(h:Below a.heap.size a b):Touch g a b:=⟨h.os,h.tape,h.output,h.size,λi hi _=>h.block i hi⟩
theorem Touch.setCell(g:Nat)(w:World)(o:Nat)(v:Value):Touch g w (w.setCell ⟨g,o,none⟩ v):=⟨rfl,rfl,rfl,by simp,λk _ hk=>AC _ _ _ _ hk⟩
theorem Touch.setRow(g:Nat)(w:World)(C:Array Value):Touch g w (w.setRow g C):=⟨rfl,rfl,rfl,by simp,λk _ hk=>Bf _ _ _ _ hk⟩
theorem Touch.drew(g:Nat)(w:World):Touch g w w.drew:=⟨rfl,rfl,rfl,Aa _,λ_ _ _=>rfl⟩
theorem Lf(s:S4)(tl:List Int)(n:Nat):(HC s tl n).toList=[Value.int .u64 s.a,Value.int .u64 s.b,Value.int .u64 s.c,Value.int .u64 s.d]++tl.map (Value.int .u8)++[Value.int .i64 n]:=by
 simp[HC,B8]
theorem IU(s:S4)(tl:List Int)(n:Nat){C:Array Value}(h:C.toList=[Value.int .u64 s.a,Value.int .u64 s.b,Value.int .u64 s.c,Value.int .u64 s.d]++tl.map (Value.int .u8)++[Value.int .i64 n]):C=HC s tl n:=by
 apply Array.ext';rw[h,Lf]
theorem J6(s:S4)(tl:List Int)(n m:Nat)(h:tl.length=32):(HC s tl n).setIfInBounds 36 (.int .i64 m)=HC s tl m:=by
 apply IU;rw[Array.toList_setIfInBounds,Lf,DM _ _ (by simp[h])];simp[h]
theorem Ob(s:S4)(tl:List Int)(n:Nat)(a b c d:Int):((((HC s tl n).setIfInBounds 0 (.int .u64 a)).setIfInBounds 1 (.int .u64 b)).setIfInBounds 2 (.int .u64 c)).setIfInBounds 3 (.int .u64 d)=HC ⟨a,b,c,d⟩ tl n:=by
 apply IU;simp only[Array.toList_setIfInBounds,Lf];simp
theorem OW{α:Type}(pre T X:List α)(z:α)(o m:Nat)(hm:o+m<=T.length):(pre++T++[z]).take (pre.length+o)++X++(pre++T++[z]).drop (pre.length+o+m)=pre++(T.take o++X++T.drop (o+m))++[z]:=by
 rw[List.append_assoc pre T [z],List.take_length_add_append,Nat.add_assoc,List.drop_length_add_append,List.take_append_of_le_length (by omega),List.drop_append_of_le_length hm];simp[List.append_assoc]
theorem I0{w:World}{g o dl dc sl sc:Nat}{ad:Addr}{s:S4}{tl xs:List Int}{n:Nat}(hg:w.heap[g]?=some (.cells (HC s tl n) 115))(hl:tl.length=32)(hn:xs.length=Nat.min sl dl)(hfit:o+xs.length<=32)
 (hsrc:∀j v,(xs.map (Value.int .u8))[j]?=some v->w.cell? (ad.add j)=some v) (ty:TypeId):
 (Builtin.copy_ #[23,23] ty #[.slice (some ⟨g,4+o,none⟩) dl dc, .slice (some ad) sl sc]).run prog w= .ok (.int .i64 xs.length) (w.setRow g (HC s (tl.take o++xs++tl.drop (o+xs.length)) n)):=by
 have h:=run_copy_row prog w 23 23 ty 5 g (4+o) dl dc ad sl sc (HC s tl n) 115 (xs.map (Value.int .u8)) underlying23 (by kernel_rfl) hg (by simpa using hn) hsrc (by rw[NU];simp;omega) (NX _);rw[h];have e:((HC s tl n).toList.take (4+o)++xs.map (Value.int .u8)++(HC s tl n).toList.drop (4+o+(xs.map (Value.int .u8)).length)).toArray=HC s (tl.take o++xs++tl.drop (o+xs.length)) n:=by
  apply IU;rw[Lf,List.toList_toArray,AZ];have h:=OW [Value.int .u64 s.a,Value.int .u64 s.b,Value.int .u64 s.c,Value.int .u64 s.d] (tl.map (Value.int .u8)) (xs.map (Value.int .u8)) (Value.int .i64 n) o xs.length (by simp;omega);rw[BB,BB,List.map_take,List.map_drop];exact h
 rw[e];simp[goInt]
theorem K4{w:World}{g:Nat}{s:S4}{tl:List Int}{n:Nat}(hg:w.heap[g]?=some (.cells (HC s tl n) 115))(hl:tl.length=32):(load23V (.pointer (some ⟨g,4,none⟩))).run prog w= .ok (.agg (B8 tl)) w:=by
 have hr:w.rangeAt g 4 (tl.map (Value.int .u8)):=by
  intro j v hv;have hj:j<tl.length:=by have:=(Aw.1 hv).1;simpa using this
  rw[Ad w g _ _ _ _ hg,Sc s tl n j hj,<-hv];simp[Ac hj]
 have:=run_loadAt_mid (P:=prog) w g 4 34 (tl.map (Value.int .u8)) _ hr underlying34 rfl (by rw[AZ,hl];kernel_rfl);exact this
def stP(bs:List Int):Nat->S4
 |0=>s0
 |i+1=>mix (stP bs i) (words ((bs.drop (32*i)).take 32))
theorem Fv(xs ys:List Int):∀i,32*i<=xs.length->stP (xs++ys) i=stP xs i
 |0,_=>rfl
 |i+1,h=>by
  have ih:=Fv xs ys i (by omega);unfold stP;rw[ih,Ct (by omega),Cs (by rw[AQ];omega)]
structure Inv(all:List Int)(s:S4)(tl:List Int)(n:Nat):Prop where
 hn:n=all.length
 hs:s=stP all (n/32)
 hl:tl.length=32
 ht:tl.take (n%32)=all.drop (32*(n/32))
 hb:∀x∈tl,0<=x/\x<256
structure Mid(cur:List Int)(s:S4)(tl:List Int):Prop where
 hm:cur.length%32=0
 hs:s=stP cur (cur.length/32)
 hl:tl.length=32
 hb:∀x∈tl,0<=x/\x<256
theorem Tp(cur p:List Int)(hm:cur.length%32=0)(hp:p.length=32):stP (cur++p) ((cur++p).length/32)=mix (stP cur (cur.length/32)) (words p):=by
 have e:(cur++p).length/32=cur.length/32+1:=by rw[Ab,hp];omega
 rw[e];show mix (stP (cur++p) (cur.length/32)) (words (((cur++p).drop (32*(cur.length/32))).take 32))=_;rw[Fv cur p _ (by omega),show 32*(cur.length/32)=cur.length from by omega,Cl,A8 (by omega)]
theorem Inv.start{all:List Int}{s:S4}{tl:List Int}{n:Nat}(h:Inv all s tl n)(h0:n%32=0):Mid all s tl:=
 ⟨by rw[<-h.hn];exact h0,by rw[h.hs,h.hn],h.hl,h.hb⟩
theorem Inv.short{all bs:List Int}{s:S4}{tl:List Int}{n f:Nat}(h:Inv all s tl n)(hf:n%32=f)(hs:f+bs.length<32)(hb:∀x∈bs,0<=x/\x<256):
 Inv (all++bs) s (tl.take f++bs++tl.drop (f+bs.length)) (n+bs.length):=by
 have hn:=h.hn;have hl:=h.hl;refine⟨by rw[Ab,<-hn],?_,?_,?_,?_⟩
 ·rw[show(n+bs.length)/32=n/32 from by omega,Fv _ _ _ (by omega),h.hs]
 ·simp only[Ab,Am,AQ];omega
 ·rw[show(n+bs.length)%32=f+bs.length from by omega,show(n+bs.length)/32=n/32 from by omega];have e:(tl.take f++bs).length=f+bs.length:=by simp[hl];omega
  rw[<-e,CX,Ct (by omega),<-h.ht,hf]
 ·intro x hx;simp only[Bc]at hx;rcases hx with(hx|hx)|hx
  ·exact h.hb x (Bn hx)
  ·exact hb x hx
  ·exact h.hb x (BF hx)
theorem Inv.full{all bs:List Int}{s:S4}{tl:List Int}{n f m:Nat}(h:Inv all s tl n)(hf:n%32=f)(hm:f+m=32)(hbl:m<=bs.length)(hb:∀x∈bs,0<=x/\x<256):
 Mid (all++bs.take m) (mix s (words (tl.take f++bs.take m++tl.drop (f+m)))) (tl.take f++bs.take m++tl.drop (f+m)):=by
 have hn:=h.hn;have hl:=h.hl;have hbm:(bs.take m).length=m:=by rw[Am];omega
 have e0:tl.drop (f+m)=[]:=BJ (by omega);rw[e0,A4];have e1:(all++bs.take m).length=n+m:=by rw[Ab,hbm,hn]
 refine⟨by rw[e1];omega,?_,by rw[Ab,hbm,Am];omega,?_⟩
 ·rw[e1,show(n+m)/32=n/32+1 from by omega];show _=mix (stP (all++bs.take m) (n/32)) (words (((all++bs.take m).drop (32*(n/32))).take 32));rw[Fv _ _ _ (by omega),<-h.hs,Ct (by omega),<-h.ht,hf,A8 (l:=tl.take f++bs.take m) (by rw[Ab,hbm,Am];omega)]
 ·intro x hx;simp only[Bc]at hx;rcases hx with hx|hx
  ·exact h.hb x (Bn hx)
  ·exact hb x (Bn hx)
theorem Mid.piece{cur p:List Int}{s:S4}{tl:List Int}(h:Mid cur s tl)(hp:p.length=32)(hb:∀x∈p,0<=x/\x<256):Mid (cur++p) (mix s (words p)) p:=
 ⟨by rw[Ab,hp];have:=h.hm;omega,by rw[Tp cur p h.hm hp,h.hs],hp,hb⟩
theorem Mid.stop{cur rs:List Int}{s:S4}{tl:List Int}(h:Mid cur s tl)(hr:rs.length<32)(hb:∀x∈rs,0<=x/\x<256):Inv (cur++rs) s (rs++tl.drop rs.length) (cur.length+rs.length):=by
 have hm:=h.hm;refine⟨by rw[Ab],?_,by rw[Ab,AQ,h.hl];omega,?_,?_⟩
 ·rw[show(cur.length+rs.length)/32=cur.length/32 from by omega,Fv _ _ _ (by omega),h.hs]
 ·rw[show(cur.length+rs.length)%32=rs.length from by omega,show 32*((cur.length+rs.length)/32)=cur.length from by omega,CX,Cl]
 ·intro x hx;rcases Bc.1 hx with hx|hx
  ·exact hb x hx
  ·exact h.hb x (BF hx)
attribute [local go_sem ↓] Kz Go.wp_at_zero Go.wp_at_succ
structure Ws(g gb off:Nat)(w0 w:World)(bs:List Int)(s:S4)(tl:List Int)(n:Nat):Prop where
 hg:w.heap[g]?=some (.cells (HC s tl n) 115)
 t:Touch g w0 w
 hc:∀j,j<bs.length->w.cell? ⟨gb,off+j,none⟩=some (.int .u8 (bs.getD j 0))
theorem wpl_copy{w:World}{ops:Array Oper}{rest:List Oper}{o:Oper}{a:Act}{Q:Exit->Act->World->Prop}(hgd:o.guard=none)(d x:Operand)
 (ho:o.op= .call {callee:= .builtin .copy,args:=#[d,x],argTypes:=#[23,23]}) (v u:Value) (hd:a.eval d=v) (hx:a.eval x=u) {v':Value} {w':World}
 (hr:(Builtin.copy_ #[23,23] o.type #[v,u]).run prog w= .ok v' w') (h:wpList prog ops Q rest (a.put o.dst v') w'):wpList prog ops Q (o::rest) a w:=by
 refine wpList_plain hgd λK hK=>?_;unfold Oper.wp;simp[execOp,ho,resolve,invoke,builtin,hd,hx,hr,Result.andThen];exact hK _ _ h
theorem Ws.tail{g gb off:Nat}{w0 w:World}{bs:List Int}{s:S4}{tl:List Int}{n:Nat}(h:Ws g gb off w0 w bs s tl n)(hgb:gb≠g)(tl':List Int):Ws g gb off w0 (w.setRow g (HC s tl' n)) bs s tl' n:=
 ⟨AE _ _ _ _ _ _ h.hg,h.t.trans (Touch.setRow _ _ _),λj hj=>(Ay (w:=w) (Bf _ _ _ _ hgb)).trans (h.hc j hj)⟩
theorem Ws.drew{g gb off:Nat}{w0 w:World}{bs:List Int}{s:S4}{tl:List Int}{n:Nat}(h:Ws g gb off w0 w bs s tl n):Ws g gb off w0 w.drew bs s tl n:=⟨h.hg,h.t.trans (Touch.drew _ _),h.hc⟩
theorem Ws.call{g gb off:Nat}{w0 w w1:World}{bs:List Int}{s:S4}{tl:List Int}{n:Nat}(h:Ws g gb off w0 w bs s tl n)(hb:Below w.heap.size w w1):Ws g gb off w0 w1 bs s tl n:=
 ⟨Below.row hb h.hg,h.t.trans (Touch.of_below hb),λj hj=>(hb.cell (p:=⟨gb,off+j,none⟩) (Af (h.hc j hj))).trans (h.hc j hj)⟩
theorem Ws.state{g gb off:Nat}{w0 w:World}{bs:List Int}{s:S4}{tl:List Int}{n:Nat}(h:Ws g gb off w0 w bs s tl n)(hgb:gb≠g)(a b c d:Int):
 Ws g gb off w0 ((((w.setCell ⟨g,0,none⟩ (.int .u64 a)).setCell ⟨g,1,none⟩ (.int .u64 b)).setCell ⟨g,2,none⟩ (.int .u64 c)).setCell ⟨g,3,none⟩ (.int .u64 d)) bs ⟨a,b,c,d⟩ tl n:=by
 have h1:=AX w g 0 _ 115 (.int .u64 a) h.hg;have h2:=AX _ g 1 _ 115 (.int .u64 b) h1;have h3:=AX _ g 2 _ 115 (.int .u64 c) h2;have h4:=AX _ g 3 _ 115 (.int .u64 d) h3;rw[Ob]at h4
 exact⟨h4,(((h.t.trans (Touch.setCell _ _ _ _)).trans (Touch.setCell _ _ _ _)).trans (Touch.setCell _ _ _ _)).trans (Touch.setCell _ _ _ _),λj hj=>by
  have e:=GT (w:=w) hgb (.int .u64 a) (.int .u64 b) (.int .u64 c) (.int .u64 d);have e2:((((w.setCell ⟨g,0,none⟩ (.int .u64 a)).setCell ⟨g,1,none⟩ (.int .u64 b)).setCell ⟨g,2,none⟩ (.int .u64 c)).setCell ⟨g,3,none⟩ (.int .u64 d)).cell? ⟨gb,off+j,none⟩=w.cell? ⟨gb,off+j,none⟩:=Ay e;rw[e2];exact h.hc j hj⟩
theorem Ws.first{g gb off:Nat}{w:World}{bs:List Int}{s:S4}{tl:List Int}{n m:Nat}(hg:w.heap[g]?=some (.cells (HC s tl n) 115))(hl:tl.length=32)(hc:∀j,j<bs.length->w.cell? ⟨gb,off+j,none⟩=some (.int .u8 (bs.getD j 0)))(hgb:gb≠g){p:Int}(hp:p=(m:Nat)):
 Ws g gb off w (w.setCell ⟨g,36,none⟩ (.int .i64 p)) bs s tl m:=by
 subst hp;have h1:=AX w g 36 _ 115 (.int .i64 (m:Nat)) hg;rw[J6 _ _ _ _ hl]at h1;exact⟨h1,Touch.setCell _ _ _ _,λj hj=>(Ay (w:=w) (AC _ _ _ _ hgb)).trans (hc j hj)⟩
theorem Oc{w:World}{gb off k m:Nat}{bs:List Int}(hc:∀j,j<bs.length->w.cell? ⟨gb,off+j,none⟩=some (.int .u8 (bs.getD j 0))):∀j v,(((bs.drop k).take m).map (Value.int .u8))[j]?=some v->w.cell? ((⟨gb,off+k,none⟩:Addr).add j)=some v:=by
 intro j v hv;have hadd:(⟨gb,off+k,none⟩:Addr).add j=⟨gb,off+(k+j),none⟩:=by unfold Addr.add;split<;>simp_all [Cz]
 have hj:=(Aw.1 hv).1;simp at hj;rw[hadd,hc (k+j) (by omega),<-hv];simp[hj,Ac (show k+j<bs.length by omega)]
theorem Qr(g gb off len cap:Nat)(a b c d:Int)(tl:List Int)(n:Nat)(all bs:List Int)(w:World)(hinv:Inv all ⟨a,b,c,d⟩ tl n)(hbs:bs.length=len)(hpos:0<len)(hcap:len<=cap)(hm:cap<=maxLen)(hsum:n+len<9223372036854775808)
 (hb:∀x∈bs,0<=x/\x<256) (hgb:gb≠g) (hg:w.heap[g]?=some (.cells (HC ⟨a,b,c,d⟩ tl n) 115)) (hc:∀j,j<bs.length->w.cell? ⟨gb,off+j,none⟩=some (.int .u8 (bs.getD j 0))):
 Calls prog 63 #[.pointer (some ⟨g,0,none⟩), .slice (some ⟨gb,off,none⟩) len cap] w λe w'=>e= .returned (.tuple #[])/\(∃s' tl',Inv (all++bs) s' tl' (n+len)/\w'.heap[g]?=some (.cells (HC s' tl' (n+len)) 115))/\Touch g w w':=by
 unfold maxLen at hm;obtain⟨c0,c1,c2,c3,c36,cf⟩:=FK hg hinv.hl;have HW:=ZQ hc;have HG:=ZQ hg;have HN:=ZQ hinv.hn;clear hg hc;have F0:=Ws.first (m:=n+len) HG.out hinv.hl HW.out hgb (show(n:Int)+len=((n+len:Nat):Int)from by omega);have HF0:=ZQ F0;have HIN:=ZQ hinv;clear HG HW F0 hinv;obtain⟨f,hff⟩:∃f,n%32=f:=⟨_,rfl⟩;have hmod0:(n:Int)%32=(f:Int):=by omega
 have hmod:=ZQ hmod0;clear hmod0;have hf2:f<32:=by omega
 have hff':=ZQ hff;clear hff;go_enter func63,ntmps63
 go_upto_if 22 with fail
 rw[hmod.out]
 go_cut [1] (λt v=>∃(k:Nat)(ad:Option Addr)(s:S4)(tl:List Int),k<=len/\t= .slice ad (len-k) (cap-k)/\(k<len->ad=some ⟨gb,off+k,none⟩)/\Mid (all++bs.take k) s tl/\Ws g gb off w v bs s tl (n+len))
 case first=>
  by_cases hf:f=0
  ·subst hf;go_wp2_with fail
   go_meet
   case rel=>exact⟨0,some ⟨gb,off,none⟩,⟨a,b,c,d⟩,tl,by omega,rfl,λ_=>rfl,by have:=HIN.out.start hff'.out;simpa using this,HF0.out⟩
  ·have hf0:(0:Int)<(f:Int):=(by omega);have hf1:(f:Int)<=32:=(by omega);have hinv:=HIN.out;have hff:=hff'.out;by_cases hsh:f+len<32
   ·have hcp:=λty=>I0 (o:=f) (dl:=32-f) (dc:=32-f) (sl:=len) (sc:=cap) (ad:=⟨gb,off+0,none⟩) (xs:=(bs.drop 0).take len) HF0.out.hg hinv.hl (by rw[Am,Cw,hbs,Nat.min_self];exact(CP (by omega)).symm) (by rw[Am,Cw];omega) (Oc HF0.out.hc) ty;rw[Cw,A8 (by omega),hbs]at hcp;have I:=hinv.short hff (by omega) hb;rw[hbs]at I;have T:=HF0.out.tail hgb (tl.take f++bs++tl.drop (f+len));generalize tl.take f++bs++tl.drop (f+len)=ps at hcp I T;have HCP:=ZQ hcp;have HI:=ZQ (And.intro I T);have hlt:(f:Int)+(len:Int)<32:=(by omega);clear hcp I T hff hinv;go_wp2_with (first|refine wpl_copy rfl _ _ rfl _ _ rfl rfl (HCP.out _) ?_)
    go_returns
    exact⟨rfl,⟨_,_,HI.out.1,HI.out.2.hg⟩,HI.out.2.t⟩
   ·obtain⟨m,hmm⟩:∃m,f+m=32:=⟨32-f,by omega⟩;have hcp:=λty=>I0 (o:=f) (dl:=32-f) (dc:=32-f) (sl:=len) (sc:=cap) (ad:=⟨gb,off+0,none⟩) (xs:=(bs.drop 0).take m) HF0.out.hg hinv.hl (by rw[Am,Cw,hbs,CP (by omega)];exact(by rw[show 32-f=m from by omega];exact(Nat.min_eq_right (by omega)).symm)) (by rw[Am,Cw];omega) (Oc HF0.out.hc) ty;have hml:(bs.take m).length=m:=(by rw[Am];omega);rw[Cw,hml]at hcp;have M1:=hinv.full hff hmm (by omega) hb;have T:=HF0.out.tail hgb (tl.take f++bs.take m++tl.drop (f+m));generalize tl.take f++bs.take m++tl.drop (f+m)=ps at hcp M1 T;have HCP:=ZQ hcp;have HT:=ZQ T;have HM1:=ZQ M1;have hlt:¬(f:Int)+(m:Int)<32:=(by omega);have hm0:(m:Int)<=len:=(by omega);have hm1:(m:Int)<=cap:=(by omega);clear hcp T hff hinv M1 hml;go_wp2_with (first|refine wpl_copy rfl _ _ rfl _ _ rfl rfl (HCP.out _) ?_);refine gen_w (p:=λv=>Code.wp _ _ _ _ v) (q:=λv=>Ws g gb off w v bs ⟨a,b,c,d⟩ ps (n+len)) HT.out ?_;clear HCP HT HF0 c0 c1 c2 c3 c36 cf;intro v F;have HP:Hid (ps.length=32/\∀x∈ps,0<=x/\x<256):=⟨HM1.out.hl,HM1.out.hb⟩;obtain⟨c0,c1,c2,c3,c36,cf⟩:=FK F.hg HP.out.1;have l4:=K4 (w:=v.drew) F.hg HP.out.1
    go_region_with (first
     |(go_at_call 92;refine(GA ps HP.out.1 HP.out.2 _).mono ?_;rintro e w6⟨⟨ma,mb,mc,md,rfl,H6⟩,hb6⟩;have F3:=F.drew.call hb6;clear hb6;obtain⟨c0,c1,c2,c3,c36,cf⟩:=FK F3.hg HP.out.1)
     |(go_at_call 91;refine(J5 _ _ _ _ _ _ _ _ _).mono ?_;rintro e w7⟨⟨a7,b7,c7,d7,rfl,H7⟩,hb7⟩;have F4:=F3.call hb7;clear hb7;obtain⟨c0,c1,c2,c3,c36,cf⟩:=FK F4.hg HP.out.1))
    all_goals
     refine gen_w (p:=λv=>Exit.then _ _ _ _ v) (q:=λv=>Ws g gb off w v bs ⟨a7,b7,c7,d7⟩ ps (n+len)) (F4.state hgb _ _ _ _) ?_;have M0:Mid (all++bs.take m) ⟨a7,b7,c7,d7⟩ ps:=(by rw[H7.out,H6.out];exact HM1.out);clear l4 c0 c1 c2 c3 c36 cf F F3 F4 H6 H7 HM1 HP;intro v5 F0;have HM0:=ZQ M0;have HF5:=ZQ F0;clear M0 F0;go_wp2_with fail
     all_goals
      go_meet
      case rel=>
       first
        |exact⟨m,some ⟨gb,off+m,none⟩,⟨a7,b7,c7,d7⟩,ps,by omega,rfl,λ_=>rfl,HM0.out,HF5.out⟩
        |exact⟨m,some ⟨gb,off,none⟩,⟨a7,b7,c7,d7⟩,ps,by omega,by simp<;>omega,λh=>by exfalso;omega,HM0.out,HF5.out⟩
 case rest=>
  clear HF0 HIN c0 c1 c2 c3 c36 cf hmod hf2 hff';obtain⟨k0,ad0,s0',tl0,hk0,rfl,had0,M0,F0⟩:=hcut;have HM0:=ZQ (And.intro M0 F0);have HA0:=ZQ had0;clear M0 F0 had0;go_wp2_with fail
  go_loopw [1] (λt v=>∃(k:Nat)(ad:Option Addr)(s:S4)(tl:List Int),k<=len/\t= .slice ad (len-k) (cap-k)/\(k<len->ad=some ⟨gb,off+k,none⟩)/\Mid (all++bs.take k) s tl/\Ws g gb off w v bs s tl (n+len)) (λt _=>lenOf t)
  case atStart=>exact⟨k0,ad0,s0',tl0,hk0,rfl,HA0.out,HM0.out.1,HM0.out.2⟩
  case round=>
   clear HM0 HA0 hk0;obtain⟨k,ad,⟨a,b,c,d⟩,tl,hk,rfl,had,M,F⟩:=hrel;by_cases hlt:k+32<=len
   ·have had:=had (by omega);subst had;have hli:(32:Int)<=((len-k:Nat):Int):=(by omega);have hxl:((bs.drop k).take 32).length=32:=(by rw[Am,AQ];omega);have hcp:=λty=>I0 (o:=0) (dl:=32) (dc:=32) (sl:=len-k) (sc:=cap-k) (ad:=⟨gb,off+k,none⟩) (xs:=(bs.drop k).take 32) F.hg M.hl (by rw[hxl];exact(Nat.min_eq_right (by omega)).symm) (by omega) (Oc F.hc) ty;have HCP:=ZQ hcp;clear hcp;go_wp2_with (first|refine wpl_copy rfl _ _ rfl _ _ rfl rfl (HCP.out _) ?_);refine gen_w (p:=λv=>Code.wp _ _ _ _ v) (q:=λv=>Ws g gb off w v bs ⟨a,b,c,d⟩ ((bs.drop k).take 32) (n+len)) (by have T:=F.tail hgb ((bs.drop k).take 32);rw[show List.drop 32 tl=[]from BJ (by rw[M.hl];omega),A4];exact T) ?_;have hpb:∀x∈(bs.drop k).take 32,0<=x/\x<256:=λx hx=>hb x (BF (Bn hx));have M2:=M.piece hxl hpb;have etk:all++bs.take k++(bs.drop k).take 32=all++bs.take (k+32):=(by rw[A9,List.take_add]);rw[etk]at M2;have HP:=ZQ (And.intro hxl hpb);generalize (bs.drop k).take 32=ps at HP M2;clear etk hxl hpb F M HCP;intro v F;obtain⟨c0,c1,c2,c3,c36,cf⟩:=FK F.hg HP.out.1;have l4:=K4 (w:=v.drew) F.hg HP.out.1
    go_region_with (first
     |(go_at_call 92;refine(GA ps HP.out.1 HP.out.2 _).mono ?_;rintro e w6⟨⟨ma,mb,mc,md,rfl,H6⟩,hb6⟩;have F3:=F.drew.call hb6;clear hb6;obtain⟨c0,c1,c2,c3,c36,cf⟩:=FK F3.hg HP.out.1)
     |(go_at_call 91;refine(J5 _ _ _ _ _ _ _ _ _).mono ?_;rintro e w7⟨⟨a7,b7,c7,d7,rfl,H7⟩,hb7⟩;have F4:=F3.call hb7;clear hb7;obtain⟨c0,c1,c2,c3,c36,cf⟩:=FK F4.hg HP.out.1))
    all_goals
     refine gen_w (p:=λv=>Exit.then _ _ _ _ v) (q:=λv=>Ws g gb off w v bs ⟨a7,b7,c7,d7⟩ ps (n+len)) (F4.state hgb _ _ _ _) ?_;have M3:Mid (all++bs.take (k+32)) ⟨a7,b7,c7,d7⟩ ps:=(by rw[H7.out,H6.out];exact M2);clear l4 c0 c1 c2 c3 c36 cf F F3 F4 H6 H7 M2 HP;intro v5 F5;have HM:=ZQ (And.intro M3 F5);clear M3 F5;go_wp2_with fail
     all_goals
      first
       |exact⟨⟨k+32,(if cap-k=32 then some ⟨gb,off+k,none⟩else some ⟨gb,off+k+32,none⟩),_,_,by omega,by rw[Nat.sub_sub,Nat.sub_sub],λh=>by rw[Ae (by omega),Cz],HM.out.1,HM.out.2⟩,by simp[lenOf];omega⟩
       |(refine⟨⟨k+32,by omega,_,⟨rfl,by omega,by omega⟩,λh=>?_,_,_,HM.out.1,HM.out.2⟩,by simp[lenOf];omega⟩
         first|(exfalso;omega)|(rw[Cz]))
   ·have hrl:(bs.drop k).length=len-k:=(by rw[AQ];omega);have hli:¬(32:Int)<=((len-k:Nat):Int):=(by omega);have hrb:∀x∈bs.drop k,0<=x/\x<256:=λx hx=>hb x (BF hx);have I:=M.stop (rs:=bs.drop k) (by omega) hrb;have ecur:(all++bs.take k).length+(bs.drop k).length=n+len:=(by rw[Ab,Am,AQ,<-HN.out];omega);rw[ecur,A9,Be]at I;have T:=F.tail hgb (bs.drop k++tl.drop (bs.drop k).length);rw[hrl]at I T;have HF:=ZQ (And.intro I T.hg);by_cases hke:k=len
    ·have hz:bs.drop k++tl.drop (len-k)=tl:=(by rw[BJ (by omega),show len-k=0 from by omega];simp);rw[hz]at I;have HF:=ZQ (And.intro I F.hg);have ht:=F.t;clear I T F M had hrl hrb ecur hz;go_wp2_with (first|(refine wpList_copy_nothing rfl _ _ 23 23 rfl 5 underlying23 (by kernel_rfl) _ _ _ _ _ _ rfl rfl (by simp;omega) ?_))
     go_end0
     exact⟨rfl,⟨_,_,HF.out.1,HF.out.2⟩,ht⟩
    ·have had:=had (by omega);subst had;have hcp:=λty=>I0 (o:=0) (dl:=32) (dc:=32) (sl:=len-k) (sc:=cap-k) (ad:=⟨gb,off+k,none⟩) (xs:=(bs.drop k).take (len-k)) F.hg M.hl (by rw[Am,hrl];exact(by rw[Nat.min_self];exact(CP (by omega)).symm)) (by rw[Am,hrl];omega) (Oc F.hc) ty;rw[A8 (Nat.le_of_eq hrl)]at hcp;have HCP:=ZQ hcp;have ht:=T.t;clear hcp I T F M hrl hrb ecur;go_wp2_with (first|refine wpl_copy rfl _ _ rfl _ _ rfl rfl (HCP.out _) ?_)
     go_end0
     exact⟨rfl,⟨_,_,HF.out.1,HF.out.2⟩,ht⟩
end Go.Proofs.YtefhepcplempkaaGreat.Di
