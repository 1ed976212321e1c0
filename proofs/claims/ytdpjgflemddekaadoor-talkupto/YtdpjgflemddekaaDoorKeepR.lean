/- For every list of badges and of values, together of bulk at most 1048576, with the package's variables as the program's text lays them: the law Talk returns true and leaves its arguments as they were (talk_card : Rows.TalkUptoCardSaid). -/
import Derived.Test.YtdpjgflemddekaaDoorMKeepB
import Derived.Test.YtdpjgflemddekaaDoorRows
import Derived.Test.YtdpjgflemddekaaDoorCards
import Derived.Test.YtdpjgflemddekaaDoorTie
import Derived.ProofKit
import Derived.OpenShut
import Derived.Deep.Slices
import Derived.Below
import Derived.Deep.DeepHandedRow
import Derived.Lib.LaidTab
set_option maxRecDepth 100000
namespace Go.Proofs.YtdpjgflemddekaaDoor
open Go.ChangeShapes Go.WideShapes Go.ChangeAt Go.RowKit
theorem blk_one {H:Type}(d:DataW H):1<=Rows.uptoBulk d:=by
 cases d with
 | lit l=>cases l<;>simp [Rows.uptoBulk]
 | _=>simp [Rows.uptoBulk]
theorem blk_len {H:Type}(l:List (DataW H)):l.length<=Rows.uptoBulkAll l:=by
 induction l with
 | nil=>simp [Rows.uptoBulkAll]
 | cons x r ih=>have:=blk_one x;simp only [Rows.uptoBulkAll,List.length_cons];omega
theorem blk_slice {H:Type}(l r:List (DataW H)):l.length<=Rows.uptoBulk (.slice l r)/\Rows.uptoBulkAll l<=Rows.uptoBulk (.slice l r):=by
 have:=blk_len l;simp only [Rows.uptoBulk];omega
section
variable {H:Type} {enc:TypeId×Value->H} {w:World}
theorem cells3:Tryd.prog.cellsOf 3=1:=by kernel_rfl
theorem ints_open {fuel:Nat}{v:Value}{x:DataW H×List MemPlace}(h:DataW.trod enc Tryd.prog w 0 (fun _=>true) true fuel 22 [v]=some x):∃l:List Int,IntsAt w v l/\l.length<=Rows.uptoBulk x.1/\∀z∈l,-9223372036854775808<=z/\z<=9223372036854775807:=by
 rcases open_ints Tryd.underlying22 Tryd.underlying3 cells3 h with ⟨hcs,_⟩ | ⟨a,len,cap,zs,hcs,_,hl,_,hz,hx,hcell,hwf⟩
 ·cases hcs
  exact ⟨[],⟨none,0,rfl,fun h=>absurd h (by decide)⟩,Nat.zero_le _,fun z hz=>by cases hz⟩
 ·cases hcs
  have hz:zs.length=cap:=hz;have hll:(zs.take len).length=len:=by rw [List.length_take];omega
  refine ⟨zs.take len,⟨some a,cap,by rw [hll],fun h0=>?_⟩,?_,fun z hzm=>bounds_i64 (hwf z (List.mem_of_mem_take hzm))⟩
  ·obtain ⟨b,off,rfl,hc⟩:=ints_at hcell (by rw [hll] at h0;omega);refine ⟨b,off,rfl,fun i hi=>?_⟩
   rw [hc i (by omega)];simp [List.getD,List.getElem?_eq_getElem (show i<zs.length by omega)]
  ·have:=(blk_slice (lits (H:=H) .i64 (zs.take len)) (lits .i64 (zs.drop len))).1;rw [hx];simp only [lits,List.length_map] at this;exact this
theorem list2 {α:Type}{l:List α}(h:l.length=2):∃a0 a1,l=[a0,a1]:=by
 match l,h with
 | [a0,a1],_=>exact ⟨_,_,rfl⟩
theorem pair_cells {t:TypeId}{f0 f1:Field}{base fuel:Nat}{sp:Nat->Bool}{held:Bool}{cs:List Value}{a b:Int}{p:List MemPlace}(ht:Tryd.prog.underlying t=some (.struct #[f0,f1]))(h0:f0.type=3)(h1:f1.type=3)(o0:f0.offset=0)(o1:f1.offset=1)(hc:Tryd.prog.cellsOf t=2)
 (h:DataW.trod enc Tryd.prog w base sp held fuel t cs=some (.agg [.lit (.int .i64 a),.lit (.int .i64 b)],p)):cs=[.int .i64 a,.int .i64 b]:=by
 obtain ⟨xs,n,_,hx,hl,hxl,hf⟩:=DataW.trod_struct ht h;rw [hc] at hl;have hxl:xs.length=2:=hxl;obtain ⟨c0,c1,rfl⟩:=list2 hl;obtain ⟨x0,x1,rfl⟩:=list2 hxl;have g0:=hf 0 f0 rfl;have g1:=hf 1 f1 rfl;rw [h0,o0,cells3] at g0;rw [h1,o1,cells3] at g1;have g0:DataW.trod enc Tryd.prog w base sp held n 3 [c0]=some x0:=g0;have g1:DataW.trod enc Tryd.prog w base sp held n 3 [c1]=some x1:=g1;obtain ⟨y0,e0,z0,_⟩:=DataW.trod_int Tryd.underlying3 g0;obtain ⟨y1,e1,z1,_⟩:=DataW.trod_int Tryd.underlying3 g1;cases e0;cases e1
 subst z0;subst z1;simp only [Prod.mk.injEq,DataW.agg.injEq,List.map_cons,List.map_nil,List.cons.injEq,DataW.lit.injEq,Lit.int.injEq,true_and,and_true] at hx;rw [hx.1.1,hx.1.2]
theorem at_pair {l:List Value}{k:Nat}{x y:Value}(h:(l.drop k).take 2=[x,y]):l[k]?=some x/\l[k+1]?=some y:=by
 have h0:=congrArg (fun l=>l[0]?) h;have h1:=congrArg (fun l=>l[1]?) h;simp [List.getElem?_drop] at h0 h1;exact ⟨h0,h1⟩
end
theorem glb1:Tryd.prog.globalNamed "escheat/escheat.bitsOf" = some 1:=by kernel_rfl
theorem glb0:Tryd.prog.globalNamed "escheat/escheat.nowhere" = some 0:=by kernel_rfl
theorem glt1:(Tryd.prog.globals[1]?).map (·.type)=some 161:=by kernel_rfl
theorem glt0:(Tryd.prog.globals[0]?).map (·.type)=some 72:=by kernel_rfl
theorem cellsP:Tryd.prog.cellsOf 160=2:=by kernel_rfl
theorem cellsS:Tryd.prog.cellsOf 72=2:=by kernel_rfl
theorem glob_of {W:World}(h:laidMetH Tryd.prog Rows.talkUptoRow.laid W):Glob W:=by
 have h':laidMet Tryd.prog [("escheat/escheat.bitsOf",Rows.laid_escheat_escheat_bitsOf),("escheat/escheat.nowhere",Rows.laid_escheat_escheat_nowhere)] W:=h;obtain ⟨ps,⟨g,t,cs,fuel,p,q,hg,ht,hvar,hd,⟨g2,t2,cs2,fuel2,p2,q2,hg2,ht2,hvar2,hd2,_,_⟩,_⟩,_⟩:=h';obtain rfl:=Option.some.inj (glb1.symm.trans hg);obtain rfl:=Option.some.inj (glt1.symm.trans ht);obtain rfl:=Option.some.inj (glb0.symm.trans hg2);obtain rfl:=Option.some.inj (glt0.symm.trans ht2);have hn:=pair_cells Tryd.underlying72 rfl rfl rfl rfl cellsS hd2;obtain ⟨xs,m,_,hx,hl,hxl,hf⟩:=DataW.trod_array Tryd.underlying161 hd;match xs,hxl with
 | [x0,x1,x2,x3,x4,x5],_=>
  simp only [Rows.laid_escheat_escheat_bitsOf,Prod.mk.injEq,DataW.agg.injEq,List.map_cons,List.map_nil,List.cons.injEq,and_true] at hx;obtain ⟨⟨e0,e1,e2,e3,e4,e5⟩,_⟩:=hx;have pr:∀(i:Nat) (hi:i<6) (x:DataW Unit×List MemPlace) (a b:Int),[x0,x1,x2,x3,x4,x5][i]?=some x->DataW.agg [.lit (.int .i64 a),.lit (.int .i64 b)]=x.1->W.cell? ⟨1,i*2,none⟩=some (.int .i64 a)/\W.cell? ⟨1,i*2+1,none⟩=some (.int .i64 b):=by
   intro i hi x a b h1 h2;have h3:=hf i hi;rw [h1,cellsP] at h3;obtain ⟨xd,xp⟩:=x;have h2:DataW.agg [.lit (.int .i64 a),.lit (.int .i64 b)]=xd:=h2;subst h2;have h4:=at_pair (pair_cells Tryd.underlying160 rfl rfl rfl rfl cellsP h3);rw [World.var?_cell glb1 hvar,World.var?_cell glb1 hvar];simpa using h4
  refine ⟨?_,?_,fun i hi=>?_⟩
  ·rw [World.var?_cell glb0 hvar2];have:=congrArg (fun l=>l[0]?) hn;simpa using this
  ·rw [World.var?_cell glb0 hvar2];have:=congrArg (fun l=>l[1]?) hn;simpa using this
  ·have:i=0\/i=1\/i=2\/i=3\/i=4\/i=5:=by omega
   rcases this with rfl | rfl | rfl | rfl | rfl | rfl
   ·exact pr 0 (by decide) _ _ _ rfl e0
   ·exact pr 1 (by decide) _ _ _ rfl e1
   ·exact pr 2 (by decide) _ _ _ rfl e2
   ·exact pr 3 (by decide) _ _ _ rfl e3
   ·exact pr 4 (by decide) _ _ _ rfl e4
   ·exact pr 5 (by decide) _ _ _ rfl e5
theorem below_of {w w':World}(h:Fr w w' (fun _=>False)):RowKit.Below w.heap.size w w':=⟨h.os,h.tape,h.output,h.size,fun k hk=>h.block k hk id⟩
theorem talk_contract (H:Type)(enc:TypeId×Value->H)(W:World)(base:Nat)(args:Array Value)(ds gs:List (DataW H))(before:List MemPlace)
 (hval:∀(j:Nat) t v,Tryd.f3.params[j]?=some t->args[j]?=some v->Value.okWide Tryd.prog W .any base t v)
 (hW:DataW.Whole enc Tryd.prog Tryd.f3.params.toList Rows.talkSpec.vars false W args.toList ds gs before) (hk:Rows.uptoSmall H (ds++gs)=true) (hL:laidMetH Tryd.prog Rows.talkUptoRow.laid W) :
 Calls Tryd.prog 3 args W fun e W'=>∃v,e=.returned v/\Rows.talkSpec.post enc Tryd.prog Tryd.f3 false true false false W args v W':=by
 have hW':=hW;obtain ⟨p,q,hA0,hV,rfl,hfz,hnd⟩:=hW;have hA:DataW.TrodAll enc Tryd.prog W 0 (fun _=>true) true Tryd.f3.params.toList args.toList ds p:=hA0;rw [Tryd.params3] at hA hval;obtain ⟨v0,vs0,d0,ds0,p0,q0,hargs,rfl,rfl,h0,r0⟩:=trodAll_cons hA;obtain ⟨v1,vs1,d1,ds1,p1,q1,rfl,rfl,rfl,h1,r1⟩:=trodAll_cons r0;obtain ⟨v2,vs2,d2,ds2,p2,q2,rfl,rfl,rfl,h2,r2⟩:=trodAll_cons r1;obtain ⟨rfl,rfl,rfl⟩:=trodAll_nil r2;have hargs':args=#[v0,v1,v2]:=Array.toList_inj.1 hargs;subst hargs';obtain ⟨rfl,rfl⟩:=trodVars_none hV;have hv0:=hval 0 22 v0 (by simp) (by simp);obtain ⟨a0,len0,cap0,rfl⟩:=okWide_slice Tryd.underlying22 hv0;have hv1:=hval 1 22 v1 (by simp) (by simp);obtain ⟨a1,len1,cap1,rfl⟩:=okWide_slice Tryd.underlying22 hv1;have hv2:=hval 2 4 v2 (by simp) (by simp);obtain ⟨l,rfl⟩:=okWide_bool Tryd.underlying4 hv2;clear hA0;simp only [List.append_nil] at hW';have hlt:=hW'.lt;have h0':=h0;have h1':=h1;have h2':=h2;obtain ⟨fuel0,hf0⟩:=h0;obtain ⟨fuel1,hf1⟩:=h1;have hf0:DataW.trod enc Tryd.prog W 0 (fun _=>true) true fuel0 22 [.slice a0 len0 cap0]=some (d0,p0):=hf0;have hf1:DataW.trod enc Tryd.prog W 0 (fun _=>true) true fuel1 22 [.slice a1 len1 cap1]=some (d1,p1):=hf1;have hb:Rows.uptoBulk d0<=1048576/\Rows.uptoBulk d1<=1048576:=by
  have h:=of_decide_eq_true hk;simp only [List.append_nil,Rows.uptoBulkAll] at h;omega
 obtain ⟨bs,i0,b0,g0⟩:=ints_open hf0;obtain ⟨vs,i1,b1,g1⟩:=ints_open hf1;simp only at b0 b1;refine (talk_law _ _ bs vs l W (glob_of hL) i0 i1 (by omega) (by omega) g0 g1).mono fun e W' ⟨he,hfr⟩=>?_
 subst he;have hbl:=below_of hfr;have st0:∀sp:Nat->Bool,(∀x∈p0,sp x.block=true)->DataW.Trod enc Tryd.prog W' 0 sp true 22 (.slice a0 len0 cap0) d0 p0:=fun sp hsp=>
  WideElems.Trod_stays (by kernel_rfl) (by kernel_rfl) (of_decide_eq_true (by kernel_rfl)) h0' (fun x hx=>hbl.same (hlt x (by simp [hx]))) hsp
 have st1:∀sp:Nat->Bool,(∀x∈p1,sp x.block=true)->DataW.Trod enc Tryd.prog W' 0 sp true 22 (.slice a1 len1 cap1) d1 p1:=fun sp hsp=>
  WideElems.Trod_stays (by kernel_rfl) (by kernel_rfl) (of_decide_eq_true (by kernel_rfl)) h1' (fun x hx=>hbl.same (hlt x (by simp [hx]))) hsp
 have st2:∀sp:Nat->Bool,(∀x∈p2,sp x.block=true)->DataW.Trod enc Tryd.prog W' 0 sp true 4 (.bool l) d2 p2:=fun sp hsp=>
  WideElems.Trod_stays (by kernel_rfl) (by kernel_rfl) (of_decide_eq_true (by kernel_rfl)) h2' (fun x hx=>hbl.same (hlt x (by simp [hx]))) hsp
 refine ⟨_,rfl,[d0,d1,d2],[],p0++(p1++p2),[],p0++(p1++p2),[],hW',trodAll_cons_mk (shut_bool Tryd.underlying4 _) trodAll_mk0,?_,rfl,hbl.frame _,fun h=>by cases h⟩
 have:=trodAll_cons_mk (st0 (fun b=>decide (b<W.heap.size)) (fun x hx=>by simpa using hlt x (by simp [hx]))) (trodAll_cons_mk (st1 (fun b=>decide (b<W.heap.size)) (fun x hx=>by simpa using hlt x (by simp [hx]))) (trodAll_cons_mk (st2 (fun b=>decide (b<W.heap.size)) (fun x hx=>by simpa using hlt x (by simp [hx]))) trodAll_mk0))
 simp only [List.append_nil] at this;exact this
theorem ownK:ownKnob Tryd.prog.godebug=none:=by kernel_rfl
def putCells (cs:Array Value):Obj->Obj
 | .cells _ t frozen=>.cells cs t frozen
 | o=>o
def laidOn (w:World):World:=
 {w with heap:=((w.heap.modify 0 (putCells #[.int .i64 (-1),.int .i64 (-1)])).modify 1 (putCells #[.int .i64 1,.int .i64 0,.int .i64 4,.int .i64 10,.int .i64 3,.int .i64 6,.int .i64 2,.int .i64 2,.int .i64 4,.int .i64 4,.int .i64 2,.int .i64 6]))}
theorem laid_met (os:Os):laidMet Tryd.prog Rows.talkUptoRow.laid ((laidOn (World.holding Tryd.prog os ⟨#[],#[],[]⟩)).forCall (fun _ _=>0) ⟨#[],#[.slice none 0 0,.slice none 0 0,.bool false],[]⟩).memory:=
 laidMet_of_run' 8 (by kernel_rfl) (by kernel_rfl)
theorem reads (os:Os){H:Type}(enc:TypeId×Value->H):∃places,DataW.whole enc Tryd.prog ((laidOn (World.holding Tryd.prog os ⟨#[],#[],[]⟩)).forCall (fun _ _=>0) ⟨#[],#[.slice none 0 0,.slice none 0 0,.bool false],[]⟩).memory Tryd.f3.params.toList Rows.talkSpec.vars false #[Value.slice none 0 0,.slice none 0 0,.bool false].toList 8=some ([.nil,.nil,.lit (.bool false)],[],places):=
 ⟨[],by kernel_rfl⟩
theorem liftedUpto (os:Os)(started:os.Started)(H:Type)(enc:TypeId×Value->H)(F:Stop.Interp):
 ReturnsInHanded {} Tryd.checked os 3 .any ((Rows.OpenSpec.upto Rows.talkSpec).preRow enc Tryd.prog Tryd.f3 Rows.talkUptoRow.domain false Rows.talkUptoRow.laid) (((Rows.OpenSpec.upto Rows.talkSpec).at F).post enc Tryd.prog Tryd.f3 false true false false):=by
 obtain ⟨places,hx⟩:=reads os enc;refine returnsInHanded_of_row (C:=Tryd.checked) (s:=Rows.OpenSpec.upto Rows.talkSpec) ownK started (by kernel_rfl) Tryd.func3
  (witness_row_at (enc:=enc) (C:=Tryd.checked) false (laidOn (World.holding Tryd.prog os ⟨#[],#[],[]⟩)) #[.slice none 0 0,.slice none 0 0,.bool false] rfl (by kernel_rfl) (by kernel_rfl) (by kernel_rfl)
    (OpenSpec.preRow_of_cond 8 hx (by kernel_rfl) (fun k hk=>by cases hk;kernel_rfl) (by kernel_rfl) (laid_met os))) ?_
 intro W base args ds gs before hval hW _ hcond _ hL _ _;exact talk_contract H enc W base args ds gs before hval hW (hcond _ rfl) hL
theorem talk_upto:Rows.TalkUptoSaid:=
 OpenClaim.holds_of_cond 3 Tryd.f3 rfl rfl rfl rfl rfl rfl rfl ⟨rfl,rfl,rfl,rfl,rfl⟩ rfl rfl rfl rfl rfl (by kernel_rfl) Tryd.func3 (by kernel_rfl)
  (of_decide_eq_true (by kernel_rfl)) (by unfold Func.isWrapper;first | (rw [if_pos (by decide +kernel)];kernel_rfl) | (rw [if_neg (by decide +kernel)];exact ⟨rfl,rfl⟩))
  (fun os started H enc _ F=>by rw [OpenClaim.pre_eq_preRow];exact liftedUpto os started H enc F)
theorem talk_plain (f:FuncId)(fn:Func)(hf:Tryd.pinned.checked.prog.funcNamed "escheat/escheatkeep.Talk" = some f)(hfn:Tryd.pinned.checked.prog.funcs[f]?=some fn):
 true=Tryd.pinned.checked.prog.looks []/\∀(j:Nat) t,fn.params[j]?=some t->Tryd.pinned.checked.prog.wantsStandIn t=false:=by
 obtain rfl:f=3:=Option.some.inj ((show Tryd.prog.funcNamed "escheat/escheatkeep.Talk" = some 3 by kernel_rfl).symm.trans hf) |>.symm;obtain rfl:fn=Tryd.f3:=(Option.some.inj (Tryd.func3.symm.trans hfn)).symm;refine ⟨by kernel_rfl,fun j t ht=>?_⟩
 rw [Tryd.params3] at ht;have ht:=Array.mem_of_getElem? ht;simp only [List.mem_toArray,List.mem_cons,List.not_mem_nil,or_false] at ht;rcases ht with rfl | rfl | rfl
 ·exact (show Tryd.prog.wantsStandIn 22=false by kernel_rfl)
 ·exact (show Tryd.prog.wantsStandIn 22=false by kernel_rfl)
 ·exact (show Tryd.prog.wantsStandIn 4=false by kernel_rfl)
theorem talk_card:Rows.TalkUptoCardSaid:=
 Claim7.holds_tied_plain_at .later [] _ _ _ _ talk_upto (fun _ h=>by cases h) (by kernel_rfl) (fun _ h=>by cases h) talkUpto_row_tie rfl ⟨rfl,rfl⟩ (by kernel_rfl) rfl talk_plain (by kernel_rfl)
end Go.Proofs.YtdpjgflemddekaaDoor
