/- For every list of acts and one act more, with the package's variables as the program's text lays them: the law Revoked returns true and leaves its arguments as they were (revoked_full : Rows.RevokedCardSaid). -/
import Derived.Test.YtdpjgflemddekaaDoorMKeepL
import Derived.Test.YtdpjgflemddekaaDoorCards
import Derived.Test.YtdpjgflemddekaaDoorTie
set_option maxRecDepth 100000
namespace Go.Proofs.YtdpjgflemddekaaDoor
open Go.ChangeShapes Go.WideShapes Go.ChangeAt Go.RowKit
theorem at9 {W:World}(h:laidMetH Tryd.prog Rows.revokedRow.laid W):fm W:=qc h
theorem ac3 (H:Type)(enc:TypeId×Value->H)(W:World)(base:Nat)(args:Array Value)(ds gs:List (DataW H))(before:List MemPlace)
 (hval:∀(j:Nat) t v,Tryd.f8.params[j]?=some t->args[j]?=some v->Value.okWide Tryd.prog W .any base t v)
 (hW:DataW.Whole enc Tryd.prog Tryd.f8.params.toList Rows.revokedSpec.vars false W args.toList ds gs before) (hL:laidMetH Tryd.prog Rows.revokedRow.laid W) :
 Calls Tryd.prog 8 args W fun e W'=>∃v,e=.returned v/\Rows.revokedSpec.post enc Tryd.prog Tryd.f8 false true false false W args v W':=by
 have hW':=hW;obtain ⟨p,q,hA0,hV,rfl,hfz,hnd⟩:=hW;have hA:DataW.TrodAll enc Tryd.prog W 0 (fun _=>true) true Tryd.f8.params.toList args.toList ds p:=hA0;rw [Tryd.params8] at hA hval;obtain ⟨v0,vs0,d0,ds0,p0,q0,hargs,rfl,rfl,h0,r0⟩:=trodAll_cons hA;obtain ⟨v1,vs1,d1,ds1,p1,q1,rfl,rfl,rfl,h1,r1⟩:=trodAll_cons r0;obtain ⟨rfl,rfl,rfl⟩:=trodAll_nil r1;have hargs':args=#[v0,v1]:=Array.toList_inj.1 hargs;subst hargs';obtain ⟨rfl,rfl⟩:=trodVars_none hV;have hv0:=hval 0 37 v0 (by simp) (by simp);obtain ⟨a0,len,cap,rfl⟩:=okWide_slice Tryd.underlying37 hv0;have hv1:=hval 1 42 v1 (by simp) (by simp);obtain ⟨cs,rfl,_⟩:=okWide_struct Tryd.underlying42 hv1;clear hA0;simp only [List.append_nil] at hW';have hlt:=hW'.lt;have h0':=h0;have h1':=h1;obtain ⟨fuel,hf⟩:=h0;obtain ⟨fuel1,hf1⟩:=h1;have hf':DataW.trod enc Tryd.prog W 0 (fun _=>true) true fuel 37 [.slice a0 len cap]=some (d0,p0):=hf;have hf1':DataW.trod enc Tryd.prog W 0 (fun _=>true) true fuel1 42 cs.toList=some (d1,p1):=hf1;obtain ⟨l,hS,hl⟩:=pf hf';obtain ⟨o,bv,hcs,ho,_⟩:=aj3 hf1';have hcs':Value.agg cs=o.val bv:=by
  unfold j8.val;rw [<- Array.toArray_toList (xs:=cs),hcs]
 have hlaw:=a73 _ l o bv W (at9 hL) hS (by omega) ho;rw [<- hcs'] at hlaw;refine hlaw.mono fun e W' ⟨he,hfr⟩=>?_
 subst he;have hbl:=qk hfr;have st0:∀sp:Nat->Bool,(∀x∈p0,sp x.block=true)->DataW.Trod enc Tryd.prog W' 0 sp true 37 (.slice a0 len cap) d0 p0:=fun sp hsp=>
  WideElems.Trod_stays (by kernel_rfl) (by kernel_rfl) (of_decide_eq_true (by kernel_rfl)) h0' (fun x hx=>hbl.same (hlt x (by simp [hx]))) hsp
 have st1:∀sp:Nat->Bool,(∀x∈p1,sp x.block=true)->DataW.Trod enc Tryd.prog W' 0 sp true 42 (.agg cs) d1 p1:=fun sp hsp=>
  WideElems.Trod_stays (by kernel_rfl) (by kernel_rfl) (of_decide_eq_true (by kernel_rfl)) h1' (fun x hx=>hbl.same (hlt x (by simp [hx]))) hsp
 refine ⟨_,rfl,[d0,d1],[],p0++p1,[],p0++p1,[],hW',trodAll_cons_mk (shut_bool Tryd.underlying4 _) trodAll_mk0,?_,rfl,hbl.frame _,fun h=>by cases h⟩
 have:=trodAll_cons_mk (st0 (fun b=>decide (b<W.heap.size)) (fun x hx=>by simpa using hlt x (by simp [hx]))) (trodAll_cons_mk (st1 (fun b=>decide (b<W.heap.size)) (fun x hx=>by simpa using hlt x (by simp [hx]))) trodAll_mk0)
 simp only [List.append_nil] at this;exact this
theorem aw9 (os:Os):laidMet Tryd.prog Rows.revokedRow.laid ((j3 (World.holding Tryd.prog os ⟨#[],#[],[]⟩)).forCall (fun _ _=>0) ⟨#[],#[.slice none 0 0,.agg #[.int .i64 0,.int .i64 0,.int .i64 0,.int .i64 0,.int .i64 0,.int .i64 0,.slice none 0 0]],[]⟩).memory:=
 laidMet_of_run' 8 (by kernel_rfl) (by kernel_rfl)
theorem ao8 (os:Os){H:Type}(enc:TypeId×Value->H):∃places,DataW.whole enc Tryd.prog ((j3 (World.holding Tryd.prog os ⟨#[],#[],[]⟩)).forCall (fun _ _=>0) ⟨#[],#[.slice none 0 0,.agg #[.int .i64 0,.int .i64 0,.int .i64 0,.int .i64 0,.int .i64 0,.int .i64 0,.slice none 0 0]],[]⟩).memory Tryd.f8.params.toList Rows.revokedSpec.vars false #[Value.slice none 0 0,.agg #[.int .i64 0,.int .i64 0,.int .i64 0,.int .i64 0,.int .i64 0,.int .i64 0,.slice none 0 0]].toList 8=some ([.nil,.agg [.lit (.int .i64 0),.lit (.int .i64 0),.lit (.int .i64 0),.lit (.int .i64 0),.lit (.int .i64 0),.lit (.int .i64 0),.nil]],[],places):=
 ⟨[],by kernel_rfl⟩
theorem az2 (os:Os)(started:os.Started)(H:Type)(enc:TypeId×Value->H)(F:Stop.Interp):
 ReturnsInHanded {} Tryd.checked os 8 .any ((OpenSpec.ofChange Rows.revokedSpec).preRow enc Tryd.prog Tryd.f8 Rows.revokedRow.domain false Rows.revokedRow.laid) (((OpenSpec.ofChange Rows.revokedSpec).at F).post enc Tryd.prog Tryd.f8 false true false false):=by
 obtain ⟨places,hx⟩:=ao8 os enc;refine returnsInHanded_of_row (C:=Tryd.checked) (s:=OpenSpec.ofChange Rows.revokedSpec) a96 started (by kernel_rfl) Tryd.func8
  (witness_row_at (enc:=enc) (C:=Tryd.checked) false (j3 (World.holding Tryd.prog os ⟨#[],#[],[]⟩)) #[.slice none 0 0,.agg #[.int .i64 0,.int .i64 0,.int .i64 0,.int .i64 0,.int .i64 0,.int .i64 0,.slice none 0 0]] rfl (by kernel_rfl) (by kernel_rfl) (by kernel_rfl)
    (OpenSpec.preRow_of_cond 8 hx (by kernel_rfl) (fun k hk=>by cases hk) (by kernel_rfl) (aw9 os))) ?_
 intro W base args ds gs before hval hW _ _ _ hL _ _;exact ac3 H enc W base args ds gs before hval hW hL
theorem ay_:Rows.RevokedSaid:=
 OpenClaim.holds_of_cond 8 Tryd.f8 rfl rfl rfl rfl rfl rfl rfl ⟨rfl,rfl,rfl,rfl,rfl⟩ rfl rfl rfl rfl rfl (by kernel_rfl) Tryd.func8 (by kernel_rfl)
  (of_decide_eq_true (by kernel_rfl)) (by unfold Func.isWrapper;first | (rw [if_pos (by decide +kernel)];kernel_rfl) | (rw [if_neg (by decide +kernel)];exact ⟨rfl,rfl⟩))
  (fun os started H enc _ F=>by rw [OpenClaim.pre_eq_preRow];exact az2 os started H enc F)
theorem ap2 (f:FuncId)(fn:Func)(hf:Tryd.pinned.checked.prog.funcNamed "escheat/escheatkeep.Revoked" = some f)(hfn:Tryd.pinned.checked.prog.funcs[f]?=some fn):
 true=Tryd.pinned.checked.prog.looks []/\∀(j:Nat) t,fn.params[j]?=some t->Tryd.pinned.checked.prog.wantsStandIn t=false:=by
 obtain rfl:f=8:=Option.some.inj ((show Tryd.prog.funcNamed "escheat/escheatkeep.Revoked" = some 8 by kernel_rfl).symm.trans hf) |>.symm;obtain rfl:fn=Tryd.f8:=(Option.some.inj (Tryd.func8.symm.trans hfn)).symm;refine ⟨by kernel_rfl,fun j t ht=>?_⟩
 rw [Tryd.params8] at ht;have ht:=Array.mem_of_getElem? ht;simp only [List.mem_toArray,List.mem_cons,List.not_mem_nil,or_false] at ht;rcases ht with rfl | rfl
 ·exact (show Tryd.prog.wantsStandIn 37=false by kernel_rfl)
 ·exact (show Tryd.prog.wantsStandIn 42=false by kernel_rfl)
theorem revoked_full:Rows.RevokedCardSaid:=
 Claim7.holds_tied_plain_at .later [] _ _ _ _ ay_ (fun _ h=>by cases h) (by kernel_rfl) (fun _ h=>by cases h) revoked_row_tie rfl ⟨rfl,rfl⟩ (by kernel_rfl) rfl ap2 (by kernel_rfl)
end Go.Proofs.YtdpjgflemddekaaDoor
