/- For every script of bulk at most 1048576, with the package's variables as the program's text lays them: the law All returns true and leaves its argument as it was (all_card : Rows.AllUptoCardSaid). -/
import Derived.Test.YtdpjgflemddekaaGreatDoorMLawL
import Derived.Test.YtdpjgflemddekaaGreatDoorMLawP
import Derived.Test.YtdpjgflemddekaaGreatDoorCards
import Derived.Test.YtdpjgflemddekaaGreatDoorTie
import Derived.WalkKit
import Derived.Deep.DeepHandedRow
import Derived.Lib.LaidTab
import Derived.Below
set_option maxRecDepth 100000
namespace Go.Proofs.YtdpjgflemddekaaGreatDoor
open Go.ChangeShapes Go.WideShapes Go.RowKit
section
variable {H:Type} {enc:TypeId×Value->H} {w:World}
theorem script_open {fuel:Nat}{v:Value}{x:DataW H×List MemPlace}(h:DataW.trod enc Tryz.prog w 0 (fun _=>true) true fuel 22 [v]=some x)(hb:Rows.uptoBulk x.1<=1048576):∃l,ScriptAt w v l:=by
 rcases Deep.open_slice Tryz.underlying22 h with ⟨hcs,_⟩ | ⟨a,len,cap,m,n,D,Pl,hcs,_,hl,_,hm,hx,hel⟩
 ·cases hcs
  exact ⟨[],⟨⟨none,0,rfl,fun h=>absurd h (by decide)⟩,(fun o ho=>absurd ho (by simp)),Nat.zero_le _⟩⟩
 ·cases hcs
  have hm:m=cap:=hm;rw [hx] at hb;dsimp only at hb;have hs:=blk_slice ((List.range len).map D) ((List.range (m-len)).map fun j=>D (len+j))
  have hll:((List.range len).map D).length=len:=by simp
  have hD:∀i,i<len->Rows.uptoBulk (D i)<=1048576:=fun i hi=>by
   have:=blk_part (l:=(List.range len).map D) (List.mem_map.2 ⟨i,by simpa using hi,rfl⟩);omega
  have hop:∀i,i<len->∃o:OpD,(∀j u,o.vals[j]?=some u->w.cell? ((a.add (i*15)).add j)=some u)/\OpIn w o:=by
   intro i hi;obtain ⟨cs',h1,h2⟩:=hel i (by omega);rw [cells56] at h1;obtain ⟨o,rfl,ho⟩:=op_open h2 (hD i hi);exact ⟨o,cells_each h1,ho⟩
  haveI:Inhabited OpD:=⟨⟨0,0,⟨0,[],[],0,0,0,0,0,0,0⟩,.slice none 0 0,.slice none 0 0,.slice none 0 0,0,false,[]⟩⟩
  obtain ⟨f,hf⟩:=Deep.choose_lt hop;refine ⟨(List.range len).map f,⟨⟨some a,cap,by simp,fun h0=>?_⟩,?_,?_⟩⟩
  ·obtain ⟨g,off,spot⟩:=a;have c0:=(hf 0 (by simpa using h0)).1 0 _ rfl;have hspot:spot=none:=by simpa [Addr.add] using World.cell?_spot c0
   subst hspot;refine ⟨g,off,rfl,fun i hi j x hx=>?_⟩
   have hi':i<len:=by simpa using hi
   have:=(hf i hi').1 j x (by simpa using hx);rw [Go.WideShapes.add_plain,Go.WideShapes.add_plain] at this;exact this
  ·intro o ho;obtain ⟨i,hi,rfl⟩:=List.mem_map.1 ho;exact (hf i (by simpa using hi)).2
  ·simp;omega
end
section
variable {H:Type} {enc:TypeId×Value->H} {w:World}
theorem list2 {α:Type}{l:List α}(h:l.length=2):∃a0 a1,l=[a0,a1]:=by
 match l,h with
 | [a0,a1],_=>exact ⟨_,_,rfl⟩
theorem pair_cells {t:TypeId}{f0 f1:Field}{base fuel:Nat}{sp:Nat->Bool}{held:Bool}{cs:List Value}{a b:Int}{p:List MemPlace}(ht:Tryz.prog.underlying t=some (.struct #[f0,f1]))(h0:f0.type=3)(h1:f1.type=3)(o0:f0.offset=0)(o1:f1.offset=1)(hc:Tryz.prog.cellsOf t=2)
 (h:DataW.trod enc Tryz.prog w base sp held fuel t cs=some (.agg [.lit (.int .i64 a),.lit (.int .i64 b)],p)):cs=[.int .i64 a,.int .i64 b]:=by
 obtain ⟨xs,n,_,hx,hl,hxl,hf⟩:=DataW.trod_struct ht h;rw [hc] at hl;have hxl:xs.length=2:=hxl;obtain ⟨c0,c1,rfl⟩:=list2 hl;obtain ⟨x0,x1,rfl⟩:=list2 hxl;have g0:=hf 0 f0 rfl;have g1:=hf 1 f1 rfl;rw [h0,o0,cells3] at g0;rw [h1,o1,cells3] at g1;have g0:DataW.trod enc Tryz.prog w base sp held n 3 [c0]=some x0:=g0;have g1:DataW.trod enc Tryz.prog w base sp held n 3 [c1]=some x1:=g1;obtain ⟨y0,e0,z0,_⟩:=DataW.trod_int Tryz.underlying3 g0;obtain ⟨y1,e1,z1,_⟩:=DataW.trod_int Tryz.underlying3 g1;cases e0;cases e1
 subst z0;subst z1;simp only [Prod.mk.injEq,DataW.agg.injEq,List.map_cons,List.map_nil,List.cons.injEq,DataW.lit.injEq,Lit.int.injEq,true_and,and_true] at hx;rw [hx.1.1,hx.1.2]
theorem at_pair {l:List Value}{k:Nat}{x y:Value}(h:(l.drop k).take 2=[x,y]):l[k]?=some x/\l[k+1]?=some y:=by
 have h0:=congrArg (fun l=>l[0]?) h;have h1:=congrArg (fun l=>l[1]?) h;simp [List.getElem?_drop] at h0 h1;exact ⟨h0,h1⟩
end
theorem glb1:Tryz.prog.globalNamed "escheat/escheat.bitsOf" = some 1:=by kernel_rfl
theorem glb0:Tryz.prog.globalNamed "escheat/escheat.nowhere" = some 0:=by kernel_rfl
theorem glt1:(Tryz.prog.globals[1]?).map (·.type)=some 182:=by kernel_rfl
theorem glt0:(Tryz.prog.globals[0]?).map (·.type)=some 71:=by kernel_rfl
theorem cellsP:Tryz.prog.cellsOf 181=2:=by kernel_rfl
theorem cellsS:Tryz.prog.cellsOf 71=2:=by kernel_rfl
theorem glob_of {W:World}(h:laidMetH Tryz.prog Rows.allUptoRow.laid W):Glob W:=by
 have h':laidMet Tryz.prog [("escheat/escheat.bitsOf",Rows.laid_escheat_escheat_bitsOf),("escheat/escheat.nowhere",Rows.laid_escheat_escheat_nowhere)] W:=h;obtain ⟨ps,⟨g,t,cs,fuel,p,q,hg,ht,hvar,hd,⟨g2,t2,cs2,fuel2,p2,q2,hg2,ht2,hvar2,hd2,_,_⟩,_⟩,_⟩:=h';obtain rfl:=Option.some.inj (glb1.symm.trans hg);obtain rfl:=Option.some.inj (glt1.symm.trans ht);obtain rfl:=Option.some.inj (glb0.symm.trans hg2);obtain rfl:=Option.some.inj (glt0.symm.trans ht2);have hn:=pair_cells Tryz.underlying71 rfl rfl rfl rfl cellsS hd2;obtain ⟨xs,m,_,hx,hl,hxl,hf⟩:=DataW.trod_array Tryz.underlying182 hd;match xs,hxl with
 | [x0,x1,x2,x3,x4,x5],_=>
  simp only [Rows.laid_escheat_escheat_bitsOf,Prod.mk.injEq,DataW.agg.injEq,List.map_cons,List.map_nil,List.cons.injEq,and_true] at hx;obtain ⟨⟨e0,e1,e2,e3,e4,e5⟩,_⟩:=hx;have pr:∀(i:Nat) (hi:i<6) (x:DataW Unit×List MemPlace) (a b:Int),[x0,x1,x2,x3,x4,x5][i]?=some x->DataW.agg [.lit (.int .i64 a),.lit (.int .i64 b)]=x.1->W.cell? ⟨1,i*2,none⟩=some (.int .i64 a)/\W.cell? ⟨1,i*2+1,none⟩=some (.int .i64 b):=by
   intro i hi x a b h1 h2;have h3:=hf i hi;rw [h1,cellsP] at h3;obtain ⟨xd,xp⟩:=x;have h2:DataW.agg [.lit (.int .i64 a),.lit (.int .i64 b)]=xd:=h2;subst h2;have h4:=at_pair (pair_cells Tryz.underlying181 rfl rfl rfl rfl cellsP h3);rw [World.var?_cell glb1 hvar,World.var?_cell glb1 hvar];simpa using h4
  refine ⟨?_,?_,fun i hi=>?_⟩
  ·rw [World.var?_cell glb0 hvar2];have:=congrArg (fun l=>l[0]?) hn;simpa using this
  ·rw [World.var?_cell glb0 hvar2];have:=congrArg (fun l=>l[1]?) hn;simpa using this
  ·have:i=0\/i=1\/i=2\/i=3\/i=4\/i=5:=by omega
   rcases this with rfl | rfl | rfl | rfl | rfl | rfl
   ·exact pr 0 (by decide) _ _ _ rfl e0
   ·exact pr 1 (by decide) _ _ _ rfl e1
   ·exact pr 2 (by decide) _ _ _ rfl e2
   ·exact pr 3 (by decide) _ _ _ rfl e3
   ·exact pr 4 (by decide) _ _ _ rfl e4
   ·exact pr 5 (by decide) _ _ _ rfl e5
theorem below_of {w w':World}(h:Fr w w' (fun _=>False)):RowKit.Below w.heap.size w w':=⟨h.os,h.tape,h.output,h.size,fun k hk=>h.block k hk id⟩
theorem all_contract (H:Type)(enc:TypeId×Value->H)(W:World)(base:Nat)(args:Array Value)(ds gs:List (DataW H))(before:List MemPlace)
 (hval:∀(j:Nat) t v,Tryz.f6.params[j]?=some t->args[j]?=some v->Value.okWide Tryz.prog W .any base t v)
 (hW:DataW.Whole enc Tryz.prog Tryz.f6.params.toList Rows.allSpec.vars false W args.toList ds gs before) (hk:Rows.uptoSmall H (ds++gs)=true) (hL:laidMetH Tryz.prog Rows.allUptoRow.laid W) :
 Calls Tryz.prog 6 args W fun e W'=>∃v,e=.returned v/\Rows.allSpec.post enc Tryz.prog Tryz.f6 false true false false W args v W':=by
 have hW':=hW;obtain ⟨p,q,hA0,hV,rfl,hfz,hnd⟩:=hW;have hA:DataW.TrodAll enc Tryz.prog W 0 (fun _=>true) true Tryz.f6.params.toList args.toList ds p:=hA0;rw [Tryz.params6] at hA hval;obtain ⟨v0,vs0,d0,ds0,p0,q0,hargs,rfl,rfl,h0,r0⟩:=trodAll_cons hA;obtain ⟨rfl,rfl,rfl⟩:=trodAll_nil r0;have hargs':args=#[v0]:=Array.toList_inj.1 hargs;subst hargs';obtain ⟨rfl,rfl⟩:=trodVars_none hV;have hx1:(#[v0]:Array Value)[0]?=some v0:=by simp
 have hx0:(#[22]:Array TypeId)[0]?=some 22:=by simp
 have hv0:=hval 0 _ v0 hx0 hx1;obtain ⟨a0,len,cap,rfl⟩:=okWide_slice Tryz.underlying22 hv0;clear hA0;simp only [List.append_nil] at hW';have hlt:=hW'.lt;have h0':=h0;obtain ⟨fuel,hf⟩:=h0;have hf':DataW.trod enc Tryz.prog W 0 (fun _=>true) true fuel 22 [.slice a0 len cap]=some (d0,p0):=hf;have hb:Rows.uptoBulk d0<=1048576:=by
  have h:=of_decide_eq_true hk;simp only [List.append_nil,Rows.uptoBulkAll] at h;omega
 obtain ⟨l,hS⟩:=script_open hf' hb;refine (all_any _ l W (glob_of hL) hS).mono fun e W' ⟨he,hfr⟩=>?_
 subst he;have hbl:=below_of hfr;have hst:∀sp:Nat->Bool,(∀x∈p0,sp x.block=true)->DataW.Trod enc Tryz.prog W' 0 sp true 22 (.slice a0 len cap) d0 p0:=fun sp hsp=>
  WideElems.Trod_stays (by kernel_rfl) (by kernel_rfl) (of_decide_eq_true (by kernel_rfl)) h0' (fun x hx=>hbl.same (hlt x hx)) hsp
 refine ⟨_,rfl,[d0],[],p0,[],p0,[],hW',trodAll_cons_mk (shut_bool Tryz.underlying4 _) trodAll_mk0,?_,rfl,hbl.frame _,fun h=>by cases h⟩
 have:=trodAll_cons_mk (hst (fun b=>decide (b<W.heap.size)) (fun x hx=>by simpa using hlt x hx)) trodAll_mk0
 rw [List.append_nil] at this;exact this
end Go.Proofs.YtdpjgflemddekaaGreatDoor
namespace Go.Proofs.YtdpjgflemddekaaGreatDoor
open Go.ChangeShapes Go.WideShapes Go.ChangeAt Go.RowKit
theorem ownK:ownKnob Tryz.prog.godebug=none:=by kernel_rfl
def putCells (cs:Array Value):Obj->Obj
 | .cells _ t frozen=>.cells cs t frozen
 | o=>o
def laidOn (w:World):World:=
 {w with heap:=((w.heap.modify 0 (putCells #[.int .i64 (-1),.int .i64 (-1)])).modify 1 (putCells #[.int .i64 1,.int .i64 0,.int .i64 4,.int .i64 10,.int .i64 3,.int .i64 6,.int .i64 2,.int .i64 2,.int .i64 4,.int .i64 4,.int .i64 2,.int .i64 6]))}
theorem laid_met (os:Os):laidMet Tryz.prog Rows.allUptoRow.laid ((laidOn (World.holding Tryz.prog os ⟨#[],#[],[]⟩)).forCall (fun _ _=>0) ⟨#[],#[.slice none 0 0],[]⟩).memory:=
 laidMet_of_run' 8 (by kernel_rfl) (by kernel_rfl)
theorem reads (os:Os){H:Type}(enc:TypeId×Value->H):∃places,DataW.whole enc Tryz.prog ((laidOn (World.holding Tryz.prog os ⟨#[],#[],[]⟩)).forCall (fun _ _=>0) ⟨#[],#[.slice none 0 0],[]⟩).memory Tryz.f6.params.toList Rows.allSpec.vars false #[Value.slice none 0 0].toList 8=some ([.nil],[],places):=
 ⟨[],by kernel_rfl⟩
theorem liftedUpto (os:Os)(started:os.Started)(H:Type)(enc:TypeId×Value->H)(F:Stop.Interp):
 ReturnsInHanded {} Tryz.checked os 6 .any ((Rows.OpenSpec.upto Rows.allSpec).preRow enc Tryz.prog Tryz.f6 Rows.allUptoRow.domain false Rows.allUptoRow.laid) (((Rows.OpenSpec.upto Rows.allSpec).at F).post enc Tryz.prog Tryz.f6 false true false false):=by
 obtain ⟨places,hx⟩:=reads os enc;refine returnsInHanded_of_row (C:=Tryz.checked) (s:=Rows.OpenSpec.upto Rows.allSpec) ownK started (by kernel_rfl) Tryz.func6
  (witness_row_at (enc:=enc) (C:=Tryz.checked) false (laidOn (World.holding Tryz.prog os ⟨#[],#[],[]⟩)) #[.slice none 0 0] rfl (by kernel_rfl) (by kernel_rfl) (by kernel_rfl)
    (OpenSpec.preRow_of_cond 8 hx (by kernel_rfl) (fun k hk=>by cases hk;kernel_rfl) (by kernel_rfl) (laid_met os))) ?_
 intro W base args ds gs before hval hW _ hcond _ hL _ _;exact all_contract H enc W base args ds gs before hval hW (hcond _ rfl) hL
theorem all_upto:Rows.AllUptoSaid:=
 OpenClaim.holds_of_cond 6 Tryz.f6 rfl rfl rfl rfl rfl rfl rfl ⟨rfl,rfl,rfl,rfl,rfl⟩ rfl rfl rfl rfl rfl (by kernel_rfl) Tryz.func6 (by kernel_rfl)
  (of_decide_eq_true (by kernel_rfl)) (by unfold Func.isWrapper;first | (rw [if_pos (by decide +kernel)];kernel_rfl) | (rw [if_neg (by decide +kernel)];exact ⟨rfl,rfl⟩))
  (fun os started H enc _ F=>by rw [OpenClaim.pre_eq_preRow];exact liftedUpto os started H enc F)
theorem all_plain (f:FuncId)(fn:Func)(hf:Tryz.pinned.checked.prog.funcNamed "escheat/escheatlaw.All" = some f)(hfn:Tryz.pinned.checked.prog.funcs[f]?=some fn):
 true=Tryz.pinned.checked.prog.looks []/\∀(j:Nat) t,fn.params[j]?=some t->Tryz.pinned.checked.prog.wantsStandIn t=false:=by
 obtain rfl:f=6:=Option.some.inj ((show Tryz.prog.funcNamed "escheat/escheatlaw.All" = some 6 by kernel_rfl).symm.trans hf) |>.symm;obtain rfl:fn=Tryz.f6:=(Option.some.inj (Tryz.func6.symm.trans hfn)).symm;refine ⟨by kernel_rfl,fun j t ht=>?_⟩
 rw [Tryz.params6] at ht;obtain rfl:t=22:=by simpa using Array.mem_of_getElem? ht
 exact (show Tryz.prog.wantsStandIn 22=false by kernel_rfl)
theorem all_card:Rows.AllUptoCardSaid:=
 Claim7.holds_tied_plain_at .later [] _ _ _ _ all_upto (fun _ h=>by cases h) (by kernel_rfl) (fun _ h=>by cases h) allUpto_row_tie rfl ⟨rfl,rfl⟩ (by kernel_rfl) rfl all_plain (by kernel_rfl)
end Go.Proofs.YtdpjgflemddekaaGreatDoor
