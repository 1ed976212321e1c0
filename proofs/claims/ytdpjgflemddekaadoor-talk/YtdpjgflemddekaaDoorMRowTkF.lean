/- For every list of badges and of values, with the package's variables as the program's text lays them: the law Talk returns true and leaves its arguments as they were (talk_full : Rows.TalkCardSaid). -/
import Derived.Test.YtdpjgflemddekaaDoorMKeepB
import Derived.Test.YtdpjgflemddekaaDoorMKeepL
import Derived.Test.YtdpjgflemddekaaDoorCards
import Derived.Test.YtdpjgflemddekaaDoorTie
set_option maxRecDepth 100000
namespace Go.Proofs.YtdpjgflemddekaaDoor
open Go.ChangeShapes Go.WideShapes Go.ChangeAt Go.RowKit
section
variable {H:Type} {enc:TypeId×Value->H} {w:World}
theorem ar1 {fuel:Nat}{v:Value}{x:DataW H×List MemPlace}(h:DataW.trod enc Tryd.prog w 0 (fun _=>true) true fuel 22 [v]=some x):∃l:List Int,c_ w v l/\l.length<=9223372036854775807/\∀z∈l,-9223372036854775808<=z/\z<=9223372036854775807:=by
 rcases open_ints Tryd.underlying22 Tryd.underlying3 ta h with ⟨hcs,_⟩ | ⟨a,len,cap,zs,hcs,_,hl,hmx,hz,hx,hcell,hwf⟩
 ·cases hcs
  exact ⟨[],⟨none,0,rfl,fun h=>absurd h (by decide)⟩,Nat.zero_le _,fun z hz=>by cases hz⟩
 ·cases hcs
  have hz:zs.length=cap:=hz;unfold maxLen at hmx;have hll:(zs.take len).length=len:=by rw [List.length_take];omega
  refine ⟨zs.take len,⟨some a,cap,by rw [hll],fun h0=>?_⟩,by rw [hll];omega,fun z hzm=>bounds_i64 (hwf z (List.mem_of_mem_take hzm))⟩
  obtain ⟨b,off,rfl,hc⟩:=ints_at hcell (by rw [hll] at h0;omega);refine ⟨b,off,rfl,fun i hi=>?_⟩
  rw [hc i (by omega)];simp [List.getD,List.getElem?_eq_getElem (show i<zs.length by omega)]
end
theorem bk9 {W:World}(h:laidMetH Tryd.prog Rows.talkRow.laid W):fm W:=qc h
theorem ao_ (H:Type)(enc:TypeId×Value->H)(W:World)(base:Nat)(args:Array Value)(ds gs:List (DataW H))(before:List MemPlace)
 (hval:∀(j:Nat) t v,Tryd.f3.params[j]?=some t->args[j]?=some v->Value.okWide Tryd.prog W .any base t v)
 (hW:DataW.Whole enc Tryd.prog Tryd.f3.params.toList Rows.talkSpec.vars false W args.toList ds gs before) (hL:laidMetH Tryd.prog Rows.talkRow.laid W) :
 Calls Tryd.prog 3 args W fun e W'=>∃v,e=.returned v/\Rows.talkSpec.post enc Tryd.prog Tryd.f3 false true false false W args v W':=by
 have hW':=hW;obtain ⟨p,q,hA0,hV,rfl,hfz,hnd⟩:=hW;have hA:DataW.TrodAll enc Tryd.prog W 0 (fun _=>true) true Tryd.f3.params.toList args.toList ds p:=hA0;rw [Tryd.params3] at hA hval;obtain ⟨v0,vs0,d0,ds0,p0,q0,hargs,rfl,rfl,h0,r0⟩:=trodAll_cons hA;obtain ⟨v1,vs1,d1,ds1,p1,q1,rfl,rfl,rfl,h1,r1⟩:=trodAll_cons r0;obtain ⟨v2,vs2,d2,ds2,p2,q2,rfl,rfl,rfl,h2,r2⟩:=trodAll_cons r1;obtain ⟨rfl,rfl,rfl⟩:=trodAll_nil r2;have hargs':args=#[v0,v1,v2]:=Array.toList_inj.1 hargs;subst hargs';obtain ⟨rfl,rfl⟩:=trodVars_none hV;have hv0:=hval 0 22 v0 (by simp) (by simp);obtain ⟨a0,len0,cap0,rfl⟩:=okWide_slice Tryd.underlying22 hv0;have hv1:=hval 1 22 v1 (by simp) (by simp);obtain ⟨a1,len1,cap1,rfl⟩:=okWide_slice Tryd.underlying22 hv1;have hv2:=hval 2 4 v2 (by simp) (by simp);obtain ⟨l,rfl⟩:=okWide_bool Tryd.underlying4 hv2;clear hA0;simp only [List.append_nil] at hW';have hlt:=hW'.lt;have h0':=h0;have h1':=h1;have h2':=h2;obtain ⟨fuel0,hf0⟩:=h0;obtain ⟨fuel1,hf1⟩:=h1;have hf0:DataW.trod enc Tryd.prog W 0 (fun _=>true) true fuel0 22 [.slice a0 len0 cap0]=some (d0,p0):=hf0;have hf1:DataW.trod enc Tryd.prog W 0 (fun _=>true) true fuel1 22 [.slice a1 len1 cap1]=some (d1,p1):=hf1;obtain ⟨bs,i0,b0,g0⟩:=ar1 hf0;obtain ⟨vs,i1,b1,g1⟩:=ar1 hf1;refine (bp4 _ _ bs vs l W (bk9 hL) i0 i1 (by omega) (by omega) g0 g1).mono fun e W' ⟨he,hfr⟩=>?_
 subst he;have hbl:=qk hfr;have st0:∀sp:Nat->Bool,(∀x∈p0,sp x.block=true)->DataW.Trod enc Tryd.prog W' 0 sp true 22 (.slice a0 len0 cap0) d0 p0:=fun sp hsp=>
  WideElems.Trod_stays (by kernel_rfl) (by kernel_rfl) (of_decide_eq_true (by kernel_rfl)) h0' (fun x hx=>hbl.same (hlt x (by simp [hx]))) hsp
 have st1:∀sp:Nat->Bool,(∀x∈p1,sp x.block=true)->DataW.Trod enc Tryd.prog W' 0 sp true 22 (.slice a1 len1 cap1) d1 p1:=fun sp hsp=>
  WideElems.Trod_stays (by kernel_rfl) (by kernel_rfl) (of_decide_eq_true (by kernel_rfl)) h1' (fun x hx=>hbl.same (hlt x (by simp [hx]))) hsp
 have st2:∀sp:Nat->Bool,(∀x∈p2,sp x.block=true)->DataW.Trod enc Tryd.prog W' 0 sp true 4 (.bool l) d2 p2:=fun sp hsp=>
  WideElems.Trod_stays (by kernel_rfl) (by kernel_rfl) (of_decide_eq_true (by kernel_rfl)) h2' (fun x hx=>hbl.same (hlt x (by simp [hx]))) hsp
 refine ⟨_,rfl,[d0,d1,d2],[],p0++(p1++p2),[],p0++(p1++p2),[],hW',trodAll_cons_mk (shut_bool Tryd.underlying4 _) trodAll_mk0,?_,rfl,hbl.frame _,fun h=>by cases h⟩
 have:=trodAll_cons_mk (st0 (fun b=>decide (b<W.heap.size)) (fun x hx=>by simpa using hlt x (by simp [hx]))) (trodAll_cons_mk (st1 (fun b=>decide (b<W.heap.size)) (fun x hx=>by simpa using hlt x (by simp [hx]))) (trodAll_cons_mk (st2 (fun b=>decide (b<W.heap.size)) (fun x hx=>by simpa using hlt x (by simp [hx]))) trodAll_mk0))
 simp only [List.append_nil] at this;exact this
theorem bj4 (os:Os):laidMet Tryd.prog Rows.talkRow.laid ((j3 (World.holding Tryd.prog os ⟨#[],#[],[]⟩)).forCall (fun _ _=>0) ⟨#[],#[.slice none 0 0,.slice none 0 0,.bool false],[]⟩).memory:=
 laidMet_of_run' 8 (by kernel_rfl) (by kernel_rfl)
theorem a7_ (os:Os){H:Type}(enc:TypeId×Value->H):∃places,DataW.whole enc Tryd.prog ((j3 (World.holding Tryd.prog os ⟨#[],#[],[]⟩)).forCall (fun _ _=>0) ⟨#[],#[.slice none 0 0,.slice none 0 0,.bool false],[]⟩).memory Tryd.f3.params.toList Rows.talkSpec.vars false #[Value.slice none 0 0,.slice none 0 0,.bool false].toList 8=some ([.nil,.nil,.lit (.bool false)],[],places):=
 ⟨[],by kernel_rfl⟩
theorem bk8 (os:Os)(started:os.Started)(H:Type)(enc:TypeId×Value->H)(F:Stop.Interp):
 ReturnsInHanded {} Tryd.checked os 3 .any ((OpenSpec.ofChange Rows.talkSpec).preRow enc Tryd.prog Tryd.f3 Rows.talkRow.domain false Rows.talkRow.laid) (((OpenSpec.ofChange Rows.talkSpec).at F).post enc Tryd.prog Tryd.f3 false true false false):=by
 obtain ⟨places,hx⟩:=a7_ os enc;refine returnsInHanded_of_row (C:=Tryd.checked) (s:=OpenSpec.ofChange Rows.talkSpec) a96 started (by kernel_rfl) Tryd.func3
  (witness_row_at (enc:=enc) (C:=Tryd.checked) false (j3 (World.holding Tryd.prog os ⟨#[],#[],[]⟩)) #[.slice none 0 0,.slice none 0 0,.bool false] rfl (by kernel_rfl) (by kernel_rfl) (by kernel_rfl)
    (OpenSpec.preRow_of_cond 8 hx (by kernel_rfl) (fun k hk=>by cases hk) (by kernel_rfl) (bj4 os))) ?_
 intro W base args ds gs before hval hW _ _ _ hL _ _;exact ao_ H enc W base args ds gs before hval hW hL
theorem bm9:Rows.TalkSaid:=
 OpenClaim.holds_of_cond 3 Tryd.f3 rfl rfl rfl rfl rfl rfl rfl ⟨rfl,rfl,rfl,rfl,rfl⟩ rfl rfl rfl rfl rfl (by kernel_rfl) Tryd.func3 (by kernel_rfl)
  (of_decide_eq_true (by kernel_rfl)) (by unfold Func.isWrapper;first | (rw [if_pos (by decide +kernel)];kernel_rfl) | (rw [if_neg (by decide +kernel)];exact ⟨rfl,rfl⟩))
  (fun os started H enc _ F=>by rw [OpenClaim.pre_eq_preRow];exact bk8 os started H enc F)
theorem bd1 (f:FuncId)(fn:Func)(hf:Tryd.pinned.checked.prog.funcNamed "escheat/escheatkeep.Talk" = some f)(hfn:Tryd.pinned.checked.prog.funcs[f]?=some fn):
 true=Tryd.pinned.checked.prog.looks []/\∀(j:Nat) t,fn.params[j]?=some t->Tryd.pinned.checked.prog.wantsStandIn t=false:=by
 obtain rfl:f=3:=Option.some.inj ((show Tryd.prog.funcNamed "escheat/escheatkeep.Talk" = some 3 by kernel_rfl).symm.trans hf) |>.symm;obtain rfl:fn=Tryd.f3:=(Option.some.inj (Tryd.func3.symm.trans hfn)).symm;refine ⟨by kernel_rfl,fun j t ht=>?_⟩
 rw [Tryd.params3] at ht;have ht:=Array.mem_of_getElem? ht;simp only [List.mem_toArray,List.mem_cons,List.not_mem_nil,or_false] at ht;rcases ht with rfl | rfl | rfl
 ·exact (show Tryd.prog.wantsStandIn 22=false by kernel_rfl)
 ·exact (show Tryd.prog.wantsStandIn 22=false by kernel_rfl)
 ·exact (show Tryd.prog.wantsStandIn 4=false by kernel_rfl)
theorem talk_full:Rows.TalkCardSaid:=
 Claim7.holds_tied_plain_at .later [] _ _ _ _ bm9 (fun _ h=>by cases h) (by kernel_rfl) (fun _ h=>by cases h) talk_row_tie rfl ⟨rfl,rfl⟩ (by kernel_rfl) rfl bd1 (by kernel_rfl)
end Go.Proofs.YtdpjgflemddekaaDoor
