/- The package's variables; the world in which they are laid. -/
import Derived.Test.YtdpjgflemddekaaGreatDoorMRowA
import Derived.Below
namespace Go.Proofs.YtdpjgflemddekaaGreatDoor
open Go.ChangeShapes Go.WideShapes Go.ChangeAt Go.RowKit
section
variable {H:Type} {enc:TypeId×Value->H} {w:World}
theorem b43 {α:Type}{l:List α}(h:l.length=2):∃a0 a1,l=[a0,a1]:=by
 match l,h with
 | [a0,a1],_=>exact ⟨_,_,rfl⟩
theorem ao9 {t:TypeId}{f0 f1:Field}{base fuel:Nat}{sp:Nat->Bool}{held:Bool}{cs:List Value}{a b:Int}{p:List MemPlace}(ht:Tryz.prog.underlying t=some (.struct #[f0,f1]))(h0:f0.type=3)(h1:f1.type=3)(o0:f0.offset=0)(o1:f1.offset=1)(hc:Tryz.prog.cellsOf t=2)
 (h:DataW.trod enc Tryz.prog w base sp held fuel t cs=some (.agg [.lit (.int .i64 a),.lit (.int .i64 b)],p)):cs=[.int .i64 a,.int .i64 b]:=by
 obtain ⟨xs,n,_,hx,hl,hxl,hf⟩:=DataW.trod_struct ht h;rw [hc] at hl;have hxl:xs.length=2:=hxl;obtain ⟨c0,c1,rfl⟩:=b43 hl;obtain ⟨x0,x1,rfl⟩:=b43 hxl;have g0:=hf 0 f0 rfl;have g1:=hf 1 f1 rfl;rw [h0,o0,o8] at g0;rw [h1,o1,o8] at g1;have g0:DataW.trod enc Tryz.prog w base sp held n 3 [c0]=some x0:=g0;have g1:DataW.trod enc Tryz.prog w base sp held n 3 [c1]=some x1:=g1;obtain ⟨y0,e0,z0,_⟩:=DataW.trod_int Tryz.underlying3 g0;obtain ⟨y1,e1,z1,_⟩:=DataW.trod_int Tryz.underlying3 g1;cases e0;cases e1
 subst z0;subst z1;simp only [Prod.mk.injEq,DataW.agg.injEq,List.map_cons,List.map_nil,List.cons.injEq,DataW.lit.injEq,Lit.int.injEq,true_and,and_true] at hx;rw [hx.1.1,hx.1.2]
theorem b06 {l:List Value}{k:Nat}{x y:Value}(h:(l.drop k).take 2=[x,y]):l[k]?=some x/\l[k+1]?=some y:=by
 have h0:=congrArg (fun l=>l[0]?) h;have h1:=congrArg (fun l=>l[1]?) h;simp [List.getElem?_drop] at h0 h1;exact ⟨h0,h1⟩
end
theorem b48:Tryz.prog.globalNamed "escheat/escheat.bitsOf" = some 1:=by kernel_rfl
theorem b63:Tryz.prog.globalNamed "escheat/escheat.nowhere" = some 0:=by kernel_rfl
theorem b89:(Tryz.prog.globals[1]?).map (·.type)=some 182:=by kernel_rfl
theorem b8_:(Tryz.prog.globals[0]?).map (·.type)=some 71:=by kernel_rfl
theorem by9:Tryz.prog.cellsOf 181=2:=by kernel_rfl
theorem b49:Tryz.prog.cellsOf 71=2:=by kernel_rfl
theorem zl {W:World}(h':laidMet Tryz.prog [("escheat/escheat.bitsOf",Rows.laid_escheat_escheat_bitsOf),("escheat/escheat.nowhere",Rows.laid_escheat_escheat_nowhere)] W):ev W:=by
 obtain ⟨ps,⟨g,t,cs,fuel,p,q,hg,ht,hvar,hd,⟨g2,t2,cs2,fuel2,p2,q2,hg2,ht2,hvar2,hd2,_,_⟩,_⟩,_⟩:=h';obtain rfl:=Option.some.inj (b48.symm.trans hg);obtain rfl:=Option.some.inj (b89.symm.trans ht);obtain rfl:=Option.some.inj (b63.symm.trans hg2);obtain rfl:=Option.some.inj (b8_.symm.trans ht2);have hn:=ao9 Tryz.underlying71 rfl rfl rfl rfl b49 hd2;obtain ⟨xs,m,_,hx,hl,hxl,hf⟩:=DataW.trod_array Tryz.underlying182 hd;match xs,hxl with
 | [x0,x1,x2,x3,x4,x5],_=>
  simp only [Rows.laid_escheat_escheat_bitsOf,Prod.mk.injEq,DataW.agg.injEq,List.map_cons,List.map_nil,List.cons.injEq,and_true] at hx;obtain ⟨⟨e0,e1,e2,e3,e4,e5⟩,_⟩:=hx;have pr:∀(i:Nat) (hi:i<6) (x:DataW Unit×List MemPlace) (a b:Int),[x0,x1,x2,x3,x4,x5][i]?=some x->DataW.agg [.lit (.int .i64 a),.lit (.int .i64 b)]=x.1->W.cell? ⟨1,i*2,none⟩=some (.int .i64 a)/\W.cell? ⟨1,i*2+1,none⟩=some (.int .i64 b):=by
   intro i hi x a b h1 h2;have h3:=hf i hi;rw [h1,by9] at h3;obtain ⟨xd,xp⟩:=x;have h2:DataW.agg [.lit (.int .i64 a),.lit (.int .i64 b)]=xd:=h2;subst h2;have h4:=b06 (ao9 Tryz.underlying181 rfl rfl rfl rfl by9 h3);rw [World.var?_cell b48 hvar,World.var?_cell b48 hvar];simpa using h4
  refine ⟨?_,?_,fun i hi=>?_⟩
  ·rw [World.var?_cell b63 hvar2];have:=congrArg (fun l=>l[0]?) hn;simpa using this
  ·rw [World.var?_cell b63 hvar2];have:=congrArg (fun l=>l[1]?) hn;simpa using this
  ·have:i=0\/i=1\/i=2\/i=3\/i=4\/i=5:=by omega
   rcases this with rfl | rfl | rfl | rfl | rfl | rfl
   ·exact pr 0 (by decide) _ _ _ rfl e0
   ·exact pr 1 (by decide) _ _ _ rfl e1
   ·exact pr 2 (by decide) _ _ _ rfl e2
   ·exact pr 3 (by decide) _ _ _ rfl e3
   ·exact pr 4 (by decide) _ _ _ rfl e4
   ·exact pr 5 (by decide) _ _ _ rfl e5
theorem zp {w w':World}(h:Fr w w' (fun _=>False)):RowKit.Below w.heap.size w w':=⟨h.os,h.tape,h.output,h.size,fun k hk=>h.block k hk id⟩
theorem b08:ownKnob Tryz.prog.godebug=none:=by kernel_rfl
def ay_ (cs:Array Value):Obj->Obj
 | .cells _ t frozen=>.cells cs t frozen
 | o=>o
def qa (w:World):World:=
 {w with heap:=((w.heap.modify 0 (ay_ #[.int .i64 (-1),.int .i64 (-1)])).modify 1 (ay_ #[.int .i64 1,.int .i64 0,.int .i64 4,.int .i64 10,.int .i64 3,.int .i64 6,.int .i64 2,.int .i64 2,.int .i64 4,.int .i64 4,.int .i64 2,.int .i64 6]))}
end Go.Proofs.YtdpjgflemddekaaGreatDoor
