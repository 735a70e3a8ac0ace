/- Proved: the statement RecorderApart where what is read is of bulk at most 1048576 (Rows.RecorderApartUptoSaid). -/
import Derived.Test.YtkdlocloepbmcaaGreatG25
set_option linter.unusedVariables false
set_option linter.unusedSimpArgs false
set_option maxRecDepth 100000
open Go.Proofs.Tryz
namespace Go.Proofs.YtkdlocloepbmcaaGreat
section
open Go.ChangeShapes Go.WideShapes Go.ChangeAt Go.RowKit
open Go.ChangeMaps (open_string shut_string)
theorem GF(H:Type)(enc:TypeId×Δ->H)(W:Γ)(base:Nat)(args:Ξ)(ds i:List (DataW H))(z:List MemPlace)
 (d:∀(j:Nat) t v,f4.params[j]?=some t->args[j]?=some v->Value.okWide prog W .any base t v)
 (s:DataW.Whole enc prog f4.params.toList Rows.recorderApartSpec.vars false W args.toList ds i z) (r:Rows.uptoSmall H (ds++i)=true):
 κ 4 args W λv n=>Rows.recorderApartSpec.post enc prog f4 false true false false W args v n:=by
 have b:∀(j:Nat) t v,f4.params[j]?=some t->args[j]?=some v->Value.okWide prog W .any base t v:=d;have L:=s;obtain⟨p,q,f,hV,rfl,aj,ai⟩:=s;have y:DataW.TrodAll enc prog W 0 (λ_=>true) true f4.params.toList args.toList ds p:=f;rw[params4]at y b;obtain⟨v0,ae,d0,ac,p0,q0,aa,rfl,rfl,o,r0⟩:=trodAll_cons y;obtain⟨k,ab,d1,ad,p1,q1,rfl,rfl,rfl,w,r1⟩:=trodAll_cons r0;obtain⟨l,ah,V,af,X,q2,rfl,rfl,rfl,g,r2⟩:=trodAll_cons r1;obtain⟨rfl,rfl,rfl⟩:=trodAll_nil r2;obtain rfl:args=#[v0,k,l]:=by cases args;simp_all
 obtain⟨rfl,rfl⟩:=trodVars_none hV;have T:Rows.uptoBulkAll [d0,d1,V]<=1048576:=by
  simp only[A7]at r;exact B6 r
 simp only[Rows.uptoBulkAll]at T;have u:=o;have I:∀x∈p0,x.block<W.heap.size:=by obtain⟨m,a⟩:=u;exact DataW.trod_lt m _ _ _ a
 have k1:=w;have N:∀x∈p1,x.block<W.heap.size:=by obtain⟨m,a⟩:=k1;exact DataW.trod_lt m _ _ _ a
 have k2:=g;have Q:∀x∈X,x.block<W.heap.size:=by obtain⟨m,a⟩:=k2;exact DataW.trod_lt m _ _ _ a
 obtain⟨Z,F,C,D,Y,rfl,K,J⟩:=Qh (b 0 22 v0 rfl rfl) o (by omega);obtain⟨a1,G,B,P,rfl,U,M⟩:=Nv (b 1 23 k rfl rfl) w (by omega);obtain⟨a2,A,E,R,rfl,O,S⟩:=Nv (b 2 23 l rfl rfl) g (by omega);clear f d;refine(UV (λ_=>True) Z F C D Y a1 G B P a2 A E R W K J U M O S).mono λe n⟨he,c⟩=>?_;subst he;exact⟨_,rfl,_,_,_,[],_,[],L,trodAll_mk1 (shut_bool υ4 _),(trodAll_cons_mk (Below.trod OA (by kernel_rfl) (B6 (by kernel_rfl)) u c I) (trodAll_cons_mk (Below.trod OA (by kernel_rfl) (B6 (by kernel_rfl)) k1 c N) (trodAll_cons_mk (Below.trod OA (by kernel_rfl) (B6 (by kernel_rfl)) k2 c Q) trodAll_mk0))),rfl,c.frame _,λh=>by cases h⟩
set_option maxRecDepth 100000 in
theorem Hu(a:Os)(b:a.Started)(H:Type)(enc:TypeId×Δ->H)(F:Stop.Interp):
 ReturnsInHanded {} checked a 4 .any ((Rows.OpenSpec.upto Rows.recorderApartSpec).pre6 enc prog f4 Rows.recorderApartUptoRow.domain false) (((Rows.OpenSpec.upto Rows.recorderApartSpec).at F).post enc prog f4 false true false false):=by
 refine returnsInHanded_of_cond (C:=checked) (s:=Rows.OpenSpec.upto Rows.recorderApartSpec) (k:=Rows.uptoSmall) rfl own b (by kernel_rfl) func4
  (OpenSpec.witness (enc:=enc) (C:=checked) (s:=Rows.OpenSpec.upto Rows.recorderApartSpec) (k:=Rows.uptoSmall) rfl false ⟨#[],#[ε,ε,ε],[]⟩ 8 (by kernel_rfl) (by kernel_rfl) (by kernel_rfl)
    (x:=([.nil, .nil, .nil],[],[])) (by kernel_rfl) rfl (by kernel_rfl)) ?_
 intro W base args ds g c d e _ f _;exact GF H enc W base args ds g c d e f
theorem recorderApart_holds:Rows.RecorderApartUptoSaid:=
 OpenClaim.holds_of_cond 4 f4 rfl rfl rfl rfl rfl rfl rfl ⟨rfl,rfl,rfl,rfl,rfl⟩ rfl rfl rfl rfl rfl (by kernel_rfl) func4 (by kernel_rfl)
  (B6 (by kernel_rfl)) (by unfold Func.isWrapper;first|(rw[Ai (by decide+kernel)];kernel_rfl)|(rw[Ae (by decide+kernel)];exact⟨rfl,rfl⟩))
  (λb a H enc _ F=>Hu b a H enc F)
#print axioms recorderApart_holds
end
end Go.Proofs.YtkdlocloepbmcaaGreat
