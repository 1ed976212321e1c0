/- For every list of acts, with the package's variables as the program's text lays them: the law NoMore returns true and leaves its argument as it was (noMore_full : Rows.NoMoreCardSaid). -/
import Derived.Test.YtdpjgflemddekaaDoorMKeepL
import Derived.Test.YtdpjgflemddekaaDoorCards
import Derived.Test.YtdpjgflemddekaaDoorTie
set_option maxRecDepth 100000
set_option maxHeartbeats 1000000
namespace Go.Proofs.YtdpjgflemddekaaDoor
open Go.ChangeShapes Go.WideShapes Go.ChangeAt Go.RowKit
theorem a98 (v:Value)(l:List j8)(w:World)(hgl:fm w)(hl:ol w v l)(hn:l.length<=9223372036854775807):
 Calls Tryd.prog 7 #[v] w fun e w'=>e=.returned (.bool true)/\Fr w w' (fun _=>False):=by
 have hp:=yr 4 (.inr (.inr (.inr (.inl rfl)))) v l w hgl hl (by omega);clear hl;go_enter Tryd.func7,Tryd.ntmps7
 go_wp2_with (go_at_call 15;refine hp.mono ?_;rintro e w' ⟨kb,rfl,hf⟩)
 go_ret;exact ⟨rfl,hf⟩
theorem a20 {W:World}(h:laidMetH Tryd.prog Rows.noMoreRow.laid W):fm W:=qc h
theorem af8 (H:Type)(enc:TypeId×Value->H)(W:World)(base:Nat)(args:Array Value)(ds gs:List (DataW H))(before:List MemPlace)
 (hval:∀(j:Nat) t v,Tryd.f7.params[j]?=some t->args[j]?=some v->Value.okWide Tryd.prog W .any base t v)
 (hW:DataW.Whole enc Tryd.prog Tryd.f7.params.toList Rows.noMoreSpec.vars false W args.toList ds gs before) (hL:laidMetH Tryd.prog Rows.noMoreRow.laid W) :
 Calls Tryd.prog 7 args W fun e W'=>∃v,e=.returned v/\Rows.noMoreSpec.post enc Tryd.prog Tryd.f7 false true false false W args v W':=by
 have hW':=hW;obtain ⟨p,q,hA0,hV,rfl,hfz,hnd⟩:=hW;have hA:DataW.TrodAll enc Tryd.prog W 0 (fun _=>true) true Tryd.f7.params.toList args.toList ds p:=hA0;rw [Tryd.params7] at hA hval;obtain ⟨v0,vs0,d0,ds0,p0,q0,hargs,rfl,rfl,h0,r0⟩:=trodAll_cons hA;obtain ⟨rfl,rfl,rfl⟩:=trodAll_nil r0;have hargs':args=#[v0]:=Array.toList_inj.1 hargs;subst hargs';obtain ⟨rfl,rfl⟩:=trodVars_none hV;have hx1:(#[v0]:Array Value)[0]?=some v0:=by simp
 have hx0:(#[37]:Array TypeId)[0]?=some 37:=by simp
 have hv0:=hval 0 _ v0 hx0 hx1;obtain ⟨a0,len,cap,rfl⟩:=okWide_slice Tryd.underlying37 hv0;clear hA0;simp only [List.append_nil] at hW';have hlt:=hW'.lt;have h0':=h0;obtain ⟨fuel,hf⟩:=h0;have hf':DataW.trod enc Tryd.prog W 0 (fun _=>true) true fuel 37 [.slice a0 len cap]=some (d0,p0):=hf;obtain ⟨l,hS,hl⟩:=pf hf';refine (a98 _ l W (a20 hL) hS hl).mono fun e W' ⟨he,hfr⟩=>?_
 subst he;have hbl:=qk hfr;have hst:∀sp:Nat->Bool,(∀x∈p0,sp x.block=true)->DataW.Trod enc Tryd.prog W' 0 sp true 37 (.slice a0 len cap) d0 p0:=fun sp hsp=>
  WideElems.Trod_stays (by kernel_rfl) (by kernel_rfl) (of_decide_eq_true (by kernel_rfl)) h0' (fun x hx=>hbl.same (hlt x hx)) hsp
 refine ⟨_,rfl,[d0],[],p0,[],p0,[],hW',trodAll_cons_mk (shut_bool Tryd.underlying4 _) trodAll_mk0,?_,rfl,hbl.frame _,fun h=>by cases h⟩
 have:=trodAll_cons_mk (hst (fun b=>decide (b<W.heap.size)) (fun x hx=>by simpa using hlt x hx)) trodAll_mk0
 rw [List.append_nil] at this;exact this
theorem a34 (os:Os):laidMet Tryd.prog Rows.noMoreRow.laid ((j3 (World.holding Tryd.prog os ⟨#[],#[],[]⟩)).forCall (fun _ _=>0) ⟨#[],#[.slice none 0 0],[]⟩).memory:=
 laidMet_of_run' 8 (by kernel_rfl) (by kernel_rfl)
theorem aw5 (os:Os){H:Type}(enc:TypeId×Value->H):∃places,DataW.whole enc Tryd.prog ((j3 (World.holding Tryd.prog os ⟨#[],#[],[]⟩)).forCall (fun _ _=>0) ⟨#[],#[.slice none 0 0],[]⟩).memory Tryd.f7.params.toList Rows.noMoreSpec.vars false #[Value.slice none 0 0].toList 8=some ([.nil],[],places):=
 ⟨[],by kernel_rfl⟩
theorem a27 (os:Os)(started:os.Started)(H:Type)(enc:TypeId×Value->H)(F:Stop.Interp):
 ReturnsInHanded {} Tryd.checked os 7 .any ((OpenSpec.ofChange Rows.noMoreSpec).preRow enc Tryd.prog Tryd.f7 Rows.noMoreRow.domain false Rows.noMoreRow.laid) (((OpenSpec.ofChange Rows.noMoreSpec).at F).post enc Tryd.prog Tryd.f7 false true false false):=by
 obtain ⟨places,hx⟩:=aw5 os enc;refine returnsInHanded_of_row (C:=Tryd.checked) (s:=OpenSpec.ofChange Rows.noMoreSpec) a96 started (by kernel_rfl) Tryd.func7
  (witness_row_at (enc:=enc) (C:=Tryd.checked) false (j3 (World.holding Tryd.prog os ⟨#[],#[],[]⟩)) #[.slice none 0 0] rfl (by kernel_rfl) (by kernel_rfl) (by kernel_rfl)
    (OpenSpec.preRow_of_cond 8 hx (by kernel_rfl) (fun k hk=>by cases hk) (by kernel_rfl) (a34 os))) ?_
 intro W base args ds gs before hval hW _ _ _ hL _ _;exact af8 H enc W base args ds gs before hval hW hL
theorem a47:Rows.NoMoreSaid:=
 OpenClaim.holds_of_cond 7 Tryd.f7 rfl rfl rfl rfl rfl rfl rfl ⟨rfl,rfl,rfl,rfl,rfl⟩ rfl rfl rfl rfl rfl (by kernel_rfl) Tryd.func7 (by kernel_rfl)
  (of_decide_eq_true (by kernel_rfl)) (by unfold Func.isWrapper;first | (rw [if_pos (by decide +kernel)];kernel_rfl) | (rw [if_neg (by decide +kernel)];exact ⟨rfl,rfl⟩))
  (fun os started H enc _ F=>by rw [OpenClaim.pre_eq_preRow];exact a27 os started H enc F)
theorem ay4 (f:FuncId)(fn:Func)(hf:Tryd.pinned.checked.prog.funcNamed "escheat/escheatkeep.NoMore" = some f)(hfn:Tryd.pinned.checked.prog.funcs[f]?=some fn):
 true=Tryd.pinned.checked.prog.looks []/\∀(j:Nat) t,fn.params[j]?=some t->Tryd.pinned.checked.prog.wantsStandIn t=false:=by
 obtain rfl:f=7:=Option.some.inj ((show Tryd.prog.funcNamed "escheat/escheatkeep.NoMore" = some 7 by kernel_rfl).symm.trans hf) |>.symm;obtain rfl:fn=Tryd.f7:=(Option.some.inj (Tryd.func7.symm.trans hfn)).symm;refine ⟨by kernel_rfl,fun j t ht=>?_⟩
 rw [Tryd.params7] at ht;have ht:=Array.mem_of_getElem? ht;simp only [List.mem_toArray,List.mem_cons,List.not_mem_nil,or_false] at ht;subst ht;exact (show Tryd.prog.wantsStandIn 37=false by kernel_rfl)
theorem noMore_full:Rows.NoMoreCardSaid:=
 Claim7.holds_tied_plain_at .later [] _ _ _ _ a47 (fun _ h=>by cases h) (by kernel_rfl) (fun _ h=>by cases h) noMore_row_tie rfl ⟨rfl,rfl⟩ (by kernel_rfl) rfl ay4 (by kernel_rfl)
end Go.Proofs.YtdpjgflemddekaaDoor
