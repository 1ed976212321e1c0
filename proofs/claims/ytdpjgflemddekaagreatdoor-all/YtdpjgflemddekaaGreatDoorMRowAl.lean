/- For every script, with the package's variables as the program's text lays them: the law All returns true and leaves its argument as it was (all_full : Rows.AllCardSaid). -/
import Derived.Test.YtdpjgflemddekaaGreatDoorMRowC
import Derived.Test.YtdpjgflemddekaaGreatDoorMLawQ
import Derived.Test.YtdpjgflemddekaaGreatDoorCards
import Derived.Test.YtdpjgflemddekaaGreatDoorTie
set_option maxRecDepth 100000
namespace Go.Proofs.YtdpjgflemddekaaGreatDoor
open Go.ChangeShapes Go.WideShapes Go.ChangeAt Go.RowKit
theorem bs8 {W:World}(h:laidMetH Tryz.prog Rows.allRow.laid W):ev W:=zl h
theorem ax5 (H:Type)(enc:TypeId×Value->H)(W:World)(base:Nat)(args:Array Value)(ds gs:List (DataW H))(before:List MemPlace)
 (hval:∀(j:Nat) t v,Tryz.f6.params[j]?=some t->args[j]?=some v->Value.okWide Tryz.prog W .any base t v)
 (hW:DataW.Whole enc Tryz.prog Tryz.f6.params.toList Rows.allSpec.vars false W args.toList ds gs before) (vt:List TypeId) (hz:∀n∈DataW.weightsEach Tryz.prog (Tryz.f6.params.toList++vt) (ds++gs),n<=reachBytes) (hL:laidMetH Tryz.prog Rows.allRow.laid W) :
 Calls Tryz.prog 6 args W fun e W'=>∃v,e=.returned v/\Rows.allSpec.post enc Tryz.prog Tryz.f6 false true false false W args v W':=by
 have hW':=hW;obtain ⟨p,q,hA0,hV,rfl,hfz,hnd⟩:=hW;have hA:DataW.TrodAll enc Tryz.prog W 0 (fun _=>true) true Tryz.f6.params.toList args.toList ds p:=hA0;rw [Tryz.params6] at hA hval hz;obtain ⟨v0,vs0,d0,ds0,p0,q0,hargs,rfl,rfl,h0,r0⟩:=trodAll_cons hA;obtain ⟨rfl,rfl,rfl⟩:=trodAll_nil r0;have hargs':args=#[v0]:=Array.toList_inj.1 hargs;subst hargs';obtain ⟨rfl,rfl⟩:=trodVars_none hV;have hx1:(#[v0]:Array Value)[0]?=some v0:=by simp
 have hx0:(#[22]:Array TypeId)[0]?=some 22:=by simp
 have hv0:=hval 0 _ v0 hx0 hx1;obtain ⟨a0,len,cap,rfl⟩:=okWide_slice Tryz.underlying22 hv0;clear hA0;simp only [List.append_nil] at hW';have hlt:=hW'.lt;have h0':=h0;obtain ⟨fuel,hf⟩:=h0;have hf':DataW.trod enc Tryz.prog W 0 (fun _=>true) true fuel 22 [.slice a0 len cap]=some (d0,p0):=hf;have hfit:Fit 22 d0:=fun n hn=>hz n (DataW.weights_mem_each (j:=0) (t:=22) (d:=d0) (by simp) (by simp) n hn)
 obtain ⟨l,hS⟩:=sl hf' hfit;refine (b19 _ l W (bs8 hL) hS).mono fun e W' ⟨he,hfr⟩=>?_
 subst he;have hbl:=zp hfr;have hst:∀sp:Nat->Bool,(∀x∈p0,sp x.block=true)->DataW.Trod enc Tryz.prog W' 0 sp true 22 (.slice a0 len cap) d0 p0:=fun sp hsp=>
  WideElems.Trod_stays (by kernel_rfl) (by kernel_rfl) (of_decide_eq_true (by kernel_rfl)) h0' (fun x hx=>hbl.same (hlt x hx)) hsp
 refine ⟨_,rfl,[d0],[],p0,[],p0,[],hW',trodAll_cons_mk (shut_bool Tryz.underlying4 _) trodAll_mk0,?_,rfl,hbl.frame _,fun h=>by cases h⟩
 have:=trodAll_cons_mk (hst (fun b=>decide (b<W.heap.size)) (fun x hx=>by simpa using hlt x hx)) trodAll_mk0
 rw [List.append_nil] at this;exact this
theorem bp3 (os:Os):laidMet Tryz.prog Rows.allRow.laid ((qa (World.holding Tryz.prog os ⟨#[],#[],[]⟩)).forCall (fun _ _=>0) ⟨#[],#[.slice none 0 0],[]⟩).memory:=
 laidMet_of_run' 8 (by kernel_rfl) (by kernel_rfl)
theorem bl7 (os:Os){H:Type}(enc:TypeId×Value->H):∃places,DataW.whole enc Tryz.prog ((qa (World.holding Tryz.prog os ⟨#[],#[],[]⟩)).forCall (fun _ _=>0) ⟨#[],#[.slice none 0 0],[]⟩).memory Tryz.f6.params.toList Rows.allSpec.vars false #[Value.slice none 0 0].toList 8=some ([.nil],[],places):=
 ⟨[],by kernel_rfl⟩
theorem by8 (os:Os)(started:os.Started)(H:Type)(enc:TypeId×Value->H)(F:Stop.Interp):
 ReturnsInHanded {} Tryz.checked os 6 .any ((OpenSpec.ofChange Rows.allSpec).preRow enc Tryz.prog Tryz.f6 Rows.allRow.domain false Rows.allRow.laid) (((OpenSpec.ofChange Rows.allSpec).at F).post enc Tryz.prog Tryz.f6 false true false false):=by
 obtain ⟨places,hx⟩:=bl7 os enc;refine returnsInHanded_of_row (C:=Tryz.checked) (s:=OpenSpec.ofChange Rows.allSpec) b08 started (by kernel_rfl) Tryz.func6
  (witness_row_at (enc:=enc) (C:=Tryz.checked) false (qa (World.holding Tryz.prog os ⟨#[],#[],[]⟩)) #[.slice none 0 0] rfl (by kernel_rfl) (by kernel_rfl) (by kernel_rfl)
    (OpenSpec.preRow_of_cond 8 hx (by kernel_rfl) (fun k hk=>by cases hk) (by kernel_rfl) (bp3 os))) ?_
 intro W base args ds gs before hval hW _ _ hz hL _ _;exact ax5 H enc W base args ds gs before hval hW _ (fun n hn=>by simpa using List.all_eq_true.1 hz n hn) hL
theorem by0:Rows.AllSaid:=
 OpenClaim.holds_of_cond 6 Tryz.f6 rfl rfl rfl rfl rfl rfl rfl ⟨rfl,rfl,rfl,rfl,rfl⟩ rfl rfl rfl rfl rfl (by kernel_rfl) Tryz.func6 (by kernel_rfl)
  (of_decide_eq_true (by kernel_rfl)) (by unfold Func.isWrapper;first | (rw [if_pos (by decide +kernel)];kernel_rfl) | (rw [if_neg (by decide +kernel)];exact ⟨rfl,rfl⟩))
  (fun os started H enc _ F=>by rw [OpenClaim.pre_eq_preRow];exact by8 os started H enc F)
theorem bm_ (f:FuncId)(fn:Func)(hf:Tryz.pinned.checked.prog.funcNamed "escheat/escheatlaw.All" = some f)(hfn:Tryz.pinned.checked.prog.funcs[f]?=some fn):
 true=Tryz.pinned.checked.prog.looks []/\∀(j:Nat) t,fn.params[j]?=some t->Tryz.pinned.checked.prog.wantsStandIn t=false:=by
 obtain rfl:f=6:=Option.some.inj ((show Tryz.prog.funcNamed "escheat/escheatlaw.All" = some 6 by kernel_rfl).symm.trans hf) |>.symm;obtain rfl:fn=Tryz.f6:=(Option.some.inj (Tryz.func6.symm.trans hfn)).symm;refine ⟨by kernel_rfl,fun j t ht=>?_⟩
 rw [Tryz.params6] at ht;obtain rfl:t=22:=by simpa using Array.mem_of_getElem? ht
 exact (show Tryz.prog.wantsStandIn 22=false by kernel_rfl)
theorem all_full:Rows.AllCardSaid:=
 Claim7.holds_tied_plain_at .later [] _ _ _ _ by0 (fun _ h=>by cases h) (by kernel_rfl) (fun _ h=>by cases h) all_row_tie rfl ⟨rfl,rfl⟩ (by kernel_rfl) rfl bm_ (by kernel_rfl)
end Go.Proofs.YtdpjgflemddekaaGreatDoor
