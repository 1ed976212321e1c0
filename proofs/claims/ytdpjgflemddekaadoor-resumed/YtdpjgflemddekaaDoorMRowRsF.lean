/- For every list of acts, one act more and lists of interrupts, with the package's variables as the program's text lays them: the law Resumed returns true and leaves its arguments as they were (resumed_full : Rows.ResumedCardSaid). -/
import Derived.Test.YtdpjgflemddekaaDoorMKeepL
import Derived.Test.YtdpjgflemddekaaDoorMRzA
import Derived.Test.YtdpjgflemddekaaDoorCards
import Derived.Test.YtdpjgflemddekaaDoorTie
set_option maxRecDepth 100000
namespace Go.Proofs.YtdpjgflemddekaaDoor
open Go.ChangeShapes Go.WideShapes Go.ChangeAt Go.RowKit
section
variable {H:Type} {enc:TypeId×Value->H} {w:World}
theorem bo2 {fuel:Nat}{cs:List Value}{x:DataW H×List MemPlace}(h:DataW.trod enc Tryd.prog w 0 (fun _=>true) true fuel 40 cs=some x):∃v l,cs=[v]/\fj w v l:=by
 have hv:∃v,cs=[v]:=by
  rcases Deep.open_slice Tryd.underlying40 h with ⟨hcs,_⟩ | ⟨a,len,cap,m,n,D,Pl,hcs,_⟩
  ·exact ⟨_,hcs⟩
  ·exact ⟨_,hcs⟩
 obtain ⟨v,rfl⟩:=hv;obtain ⟨l,hl⟩:=aq5 h;exact ⟨v,l,rfl,hl⟩
theorem ba9 {fuel:Nat}{v:Value}{x:DataW H×List MemPlace}(h:DataW.trod enc Tryd.prog w 0 (fun _=>true) true fuel 56 [v]=some x):∃ll,bh1 w v ll/\ll.length<=9223372036854775807:=by
 rcases Deep.open_slice Tryd.underlying56 h with ⟨hcs,_⟩ | ⟨a,len,cap,m,n,D,Pl,hcs,_,hl,hmx,hm,hx,hel⟩
 ·cases hcs
  exact ⟨[],⟨none,0,rfl,fun h=>absurd h (by decide)⟩,Nat.zero_le _⟩
 ·cases hcs
  have hm:m=cap:=hm;unfold maxLen at hmx;have hop:∀i,i<len->∃l:List Bool,∃bv,w.cell? (a.add i)=some bv/\fj w bv l:=by
   intro i hi;obtain ⟨cs',h1,h2⟩:=hel i (by omega);rw [bw_] at h1;obtain ⟨bv,l,rfl,hB⟩:=bo2 h2;have:=xm h1 0 _ rfl;rw [Nat.mul_one] at this;exact ⟨l,bv,by simpa [Addr.add] using this,hB⟩
  obtain ⟨f,hf⟩:=Deep.choose_lt hop;refine ⟨(List.range len).map f,⟨some a,cap,by simp,fun h0=>?_⟩,by simp;omega⟩
  obtain ⟨g,off,spot⟩:=a;obtain ⟨_,c0,_⟩:=hf 0 (by simpa using h0);have hspot:spot=none:=by simpa [Addr.add] using World.cell?_spot c0
  subst hspot;refine ⟨g,off,rfl,fun i hi=>?_⟩
  have hi':i<len:=by simpa using hi
  obtain ⟨bv,hc,hB⟩:=hf i hi';rw [Go.WideShapes.add_plain] at hc;have e:((List.range len).map f)[i]=f i:=by simp
  rw [e];exact ⟨bv,hc,hB⟩
end
theorem au5 {W:World}(h:laidMetH Tryd.prog Rows.resumedRow.laid W):fm W:=qc h
theorem ad3 (H:Type)(enc:TypeId×Value->H)(W:World)(base:Nat)(args:Array Value)(ds gs:List (DataW H))(before:List MemPlace)
 (hval:∀(j:Nat) t v,Tryd.f9.params[j]?=some t->args[j]?=some v->Value.okWide Tryd.prog W .any base t v)
 (hW:DataW.Whole enc Tryd.prog Tryd.f9.params.toList Rows.resumedSpec.vars false W args.toList ds gs before) (hL:laidMetH Tryd.prog Rows.resumedRow.laid W) :
 Calls Tryd.prog 9 args W fun e W'=>∃v,e=.returned v/\Rows.resumedSpec.post enc Tryd.prog Tryd.f9 false true false false W args v W':=by
 have hW':=hW;obtain ⟨p,q,hA0,hV,rfl,hfz,hnd⟩:=hW;have hA:DataW.TrodAll enc Tryd.prog W 0 (fun _=>true) true Tryd.f9.params.toList args.toList ds p:=hA0;rw [Tryd.params9] at hA hval;obtain ⟨v0,vs0,d0,ds0,p0,q0,hargs,rfl,rfl,h0,r0⟩:=trodAll_cons hA;obtain ⟨v1,vs1,d1,ds1,p1,q1,rfl,rfl,rfl,h1,r1⟩:=trodAll_cons r0;obtain ⟨v2,vs2,d2,ds2,p2,q2,rfl,rfl,rfl,h2,r2⟩:=trodAll_cons r1;obtain ⟨rfl,rfl,rfl⟩:=trodAll_nil r2;have hargs':args=#[v0,v1,v2]:=Array.toList_inj.1 hargs;subst hargs';obtain ⟨rfl,rfl⟩:=trodVars_none hV;have hv0:=hval 0 37 v0 (by simp) (by simp);obtain ⟨a0,len,cap,rfl⟩:=okWide_slice Tryd.underlying37 hv0;have hv1:=hval 1 42 v1 (by simp) (by simp);obtain ⟨cs,rfl,_⟩:=okWide_struct Tryd.underlying42 hv1;have hv2:=hval 2 56 v2 (by simp) (by simp);obtain ⟨a2,len2,cap2,rfl⟩:=okWide_slice Tryd.underlying56 hv2;clear hA0;simp only [List.append_nil] at hW';have hlt:=hW'.lt;have h0':=h0;have h1':=h1;have h2':=h2;obtain ⟨fuel,hf⟩:=h0;obtain ⟨fuel1,hf1⟩:=h1;obtain ⟨fuel2,hf2⟩:=h2;have hf':DataW.trod enc Tryd.prog W 0 (fun _=>true) true fuel 37 [.slice a0 len cap]=some (d0,p0):=hf;have hf1':DataW.trod enc Tryd.prog W 0 (fun _=>true) true fuel1 42 cs.toList=some (d1,p1):=hf1;have hf2':DataW.trod enc Tryd.prog W 0 (fun _=>true) true fuel2 56 [.slice a2 len2 cap2]=some (d2,p2):=hf2;obtain ⟨l,hS,hl⟩:=pf hf';obtain ⟨o,bv,hcs,ho,_⟩:=aj3 hf1';obtain ⟨ll,hB,hbl⟩:=ba9 hf2';have hcs':Value.agg cs=o.val bv:=by
  unfold j8.val;rw [<- Array.toArray_toList (xs:=cs),hcs]
 have hlaw:=a57 _ l o bv _ ll W (au5 hL) hS (by omega) ho hB (by omega);rw [<- hcs'] at hlaw;refine hlaw.mono fun e W' ⟨he,hfr⟩=>?_
 subst he;have hbl2:=qk hfr;have st0:∀sp:Nat->Bool,(∀x∈p0,sp x.block=true)->DataW.Trod enc Tryd.prog W' 0 sp true 37 (.slice a0 len cap) d0 p0:=fun sp hsp=>
  WideElems.Trod_stays (by kernel_rfl) (by kernel_rfl) (of_decide_eq_true (by kernel_rfl)) h0' (fun x hx=>hbl2.same (hlt x (by simp [hx]))) hsp
 have st1:∀sp:Nat->Bool,(∀x∈p1,sp x.block=true)->DataW.Trod enc Tryd.prog W' 0 sp true 42 (.agg cs) d1 p1:=fun sp hsp=>
  WideElems.Trod_stays (by kernel_rfl) (by kernel_rfl) (of_decide_eq_true (by kernel_rfl)) h1' (fun x hx=>hbl2.same (hlt x (by simp [hx]))) hsp
 have st2:∀sp:Nat->Bool,(∀x∈p2,sp x.block=true)->DataW.Trod enc Tryd.prog W' 0 sp true 56 (.slice a2 len2 cap2) d2 p2:=fun sp hsp=>
  WideElems.Trod_stays (by kernel_rfl) (by kernel_rfl) (of_decide_eq_true (by kernel_rfl)) h2' (fun x hx=>hbl2.same (hlt x (by simp [hx]))) hsp
 refine ⟨_,rfl,[d0,d1,d2],[],p0++(p1++p2),[],p0++(p1++p2),[],hW',trodAll_cons_mk (shut_bool Tryd.underlying4 _) trodAll_mk0,?_,rfl,hbl2.frame _,fun h=>by cases h⟩
 have:=trodAll_cons_mk (st0 (fun b=>decide (b<W.heap.size)) (fun x hx=>by simpa using hlt x (by simp [hx]))) (trodAll_cons_mk (st1 (fun b=>decide (b<W.heap.size)) (fun x hx=>by simpa using hlt x (by simp [hx]))) (trodAll_cons_mk (st2 (fun b=>decide (b<W.heap.size)) (fun x hx=>by simpa using hlt x (by simp [hx]))) trodAll_mk0))
 simp only [List.append_nil] at this;exact this
theorem at5 (os:Os):laidMet Tryd.prog Rows.resumedRow.laid ((j3 (World.holding Tryd.prog os ⟨#[],#[],[]⟩)).forCall (fun _ _=>0) ⟨#[],#[.slice none 0 0,.agg #[.int .i64 0,.int .i64 0,.int .i64 0,.int .i64 0,.int .i64 0,.int .i64 0,.slice none 0 0],.slice none 0 0],[]⟩).memory:=
 laidMet_of_run' 8 (by kernel_rfl) (by kernel_rfl)
theorem ap6 (os:Os){H:Type}(enc:TypeId×Value->H):∃places,DataW.whole enc Tryd.prog ((j3 (World.holding Tryd.prog os ⟨#[],#[],[]⟩)).forCall (fun _ _=>0) ⟨#[],#[.slice none 0 0,.agg #[.int .i64 0,.int .i64 0,.int .i64 0,.int .i64 0,.int .i64 0,.int .i64 0,.slice none 0 0],.slice none 0 0],[]⟩).memory Tryd.f9.params.toList Rows.resumedSpec.vars false #[Value.slice none 0 0,.agg #[.int .i64 0,.int .i64 0,.int .i64 0,.int .i64 0,.int .i64 0,.int .i64 0,.slice none 0 0],.slice none 0 0].toList 8=some ([.nil,.agg [.lit (.int .i64 0),.lit (.int .i64 0),.lit (.int .i64 0),.lit (.int .i64 0),.lit (.int .i64 0),.lit (.int .i64 0),.nil],.nil],[],places):=
 ⟨[],by kernel_rfl⟩
theorem aw2 (os:Os)(started:os.Started)(H:Type)(enc:TypeId×Value->H)(F:Stop.Interp):
 ReturnsInHanded {} Tryd.checked os 9 .any ((OpenSpec.ofChange Rows.resumedSpec).preRow enc Tryd.prog Tryd.f9 Rows.resumedRow.domain false Rows.resumedRow.laid) (((OpenSpec.ofChange Rows.resumedSpec).at F).post enc Tryd.prog Tryd.f9 false true false false):=by
 obtain ⟨places,hx⟩:=ap6 os enc;refine returnsInHanded_of_row (C:=Tryd.checked) (s:=OpenSpec.ofChange Rows.resumedSpec) a96 started (by kernel_rfl) Tryd.func9
  (witness_row_at (enc:=enc) (C:=Tryd.checked) false (j3 (World.holding Tryd.prog os ⟨#[],#[],[]⟩)) #[.slice none 0 0,.agg #[.int .i64 0,.int .i64 0,.int .i64 0,.int .i64 0,.int .i64 0,.int .i64 0,.slice none 0 0],.slice none 0 0] rfl (by kernel_rfl) (by kernel_rfl) (by kernel_rfl)
    (OpenSpec.preRow_of_cond 8 hx (by kernel_rfl) (fun k hk=>by cases hk) (by kernel_rfl) (at5 os))) ?_
 intro W base args ds gs before hval hW _ _ _ hL _ _;exact ad3 H enc W base args ds gs before hval hW hL
theorem ax3:Rows.ResumedSaid:=
 OpenClaim.holds_of_cond 9 Tryd.f9 rfl rfl rfl rfl rfl rfl rfl ⟨rfl,rfl,rfl,rfl,rfl⟩ rfl rfl rfl rfl rfl (by kernel_rfl) Tryd.func9 (by kernel_rfl)
  (of_decide_eq_true (by kernel_rfl)) (by unfold Func.isWrapper;first | (rw [if_pos (by decide +kernel)];kernel_rfl) | (rw [if_neg (by decide +kernel)];exact ⟨rfl,rfl⟩))
  (fun os started H enc _ F=>by rw [OpenClaim.pre_eq_preRow];exact aw2 os started H enc F)
theorem ap4 (f:FuncId)(fn:Func)(hf:Tryd.pinned.checked.prog.funcNamed "escheat/escheatkeep.Resumed" = some f)(hfn:Tryd.pinned.checked.prog.funcs[f]?=some fn):
 true=Tryd.pinned.checked.prog.looks []/\∀(j:Nat) t,fn.params[j]?=some t->Tryd.pinned.checked.prog.wantsStandIn t=false:=by
 obtain rfl:f=9:=Option.some.inj ((show Tryd.prog.funcNamed "escheat/escheatkeep.Resumed" = some 9 by kernel_rfl).symm.trans hf) |>.symm;obtain rfl:fn=Tryd.f9:=(Option.some.inj (Tryd.func9.symm.trans hfn)).symm;refine ⟨by kernel_rfl,fun j t ht=>?_⟩
 rw [Tryd.params9] at ht;have ht:=Array.mem_of_getElem? ht;simp only [List.mem_toArray,List.mem_cons,List.not_mem_nil,or_false] at ht;rcases ht with rfl | rfl | rfl
 ·exact (show Tryd.prog.wantsStandIn 37=false by kernel_rfl)
 ·exact (show Tryd.prog.wantsStandIn 42=false by kernel_rfl)
 ·exact (show Tryd.prog.wantsStandIn 56=false by kernel_rfl)
theorem resumed_full:Rows.ResumedCardSaid:=
 Claim7.holds_tied_plain_at .later [] _ _ _ _ ax3 (fun _ h=>by cases h) (by kernel_rfl) (fun _ h=>by cases h) resumed_row_tie rfl ⟨rfl,rfl⟩ (by kernel_rfl) rfl ap4 (by kernel_rfl)
end Go.Proofs.YtdpjgflemddekaaDoor
