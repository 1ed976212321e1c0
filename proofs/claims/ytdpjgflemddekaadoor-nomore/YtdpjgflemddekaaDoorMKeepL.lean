/- The argument of the keeping statements: a script of acts, opened. -/
import Derived.Test.YtdpjgflemddekaaDoorMKeepK
import Derived.ProofKit
import Derived.OpenShut
import Derived.Deep.Slices
import Derived.Below
import Derived.Deep.DeepHandedRow
import Derived.Lib.LaidTab
namespace Go.Proofs.YtdpjgflemddekaaDoor
open Go.ChangeShapes Go.WideShapes Go.ChangeAt Go.RowKit
section
variable {H:Type} {enc:TypeId×Value->H} {w:World}
theorem ta:Tryd.prog.cellsOf 3=1:=by kernel_rfl
theorem b3_:Tryd.prog.cellsOf 4=1:=by kernel_rfl
theorem bw_:Tryd.prog.cellsOf 40=1:=by kernel_rfl
theorem bp0:Tryd.prog.cellsOf 42=7:=by kernel_rfl
theorem xm {base:Nat}{a:Addr}{n:Nat}{cs:List Value}(h:w.cells? base a n=some cs)(j:Nat)(u:Value)(hj:cs[j]?=some u):w.cell? (a.add j)=some u:=by
 unfold World.cells? at h;split at h
 ·have hl:=Lib.mapM_length h;have hjl:j<cs.length:=(List.getElem?_eq_some_iff.1 hj).1;obtain ⟨b,hb,hc⟩:=Lib.mapM_at h j j (by rw [List.length_range] at hl;rw [List.getElem?_range (by omega)]);rw [hj] at hb;cases hb;exact hc
 ·cases h
theorem aq5 {fuel:Nat}{v:Value}{x:DataW H×List MemPlace}(h:DataW.trod enc Tryd.prog w 0 (fun _=>true) true fuel 40 [v]=some x):∃l:List Bool,fj w v l:=by
 rcases Deep.open_slice Tryd.underlying40 h with ⟨hcs,_⟩ | ⟨a,len,cap,m,n,D,Pl,hcs,_,hl,_,hm,hx,hel⟩
 ·cases hcs
  exact ⟨[],none,0,rfl,Nat.le_refl _,fun h=>absurd h (by decide)⟩
 ·cases hcs
  have hm:m=cap:=hm;have hop:∀i,i<len->∃b:Bool,w.cell? (a.add i)=some (.bool b):=by
   intro i hi;obtain ⟨cs',h1,h2⟩:=hel i (by omega);rw [b3_] at h1;obtain ⟨b,e,_⟩:=DataW.trod_bool Tryd.underlying4 h2;subst e;have:=xm h1 0 _ rfl;rw [Nat.mul_one] at this;exact ⟨b,by simpa [Addr.add] using this⟩
  obtain ⟨f,hf⟩:=Deep.choose_lt hop;refine ⟨(List.range len).map f,some a,cap,by simp,by simp;omega,fun h0=>?_⟩
  obtain ⟨g,off,spot⟩:=a;have c0:=hf 0 (by simpa using h0);have hspot:spot=none:=by simpa [Addr.add] using World.cell?_spot c0
  subst hspot;refine ⟨g,off,rfl,fun i hi=>?_⟩
  have hi':i<len:=by simpa using hi
  have:=hf i hi';rw [Go.WideShapes.add_plain] at this;simpa using this
theorem b70 {α:Type}{l:List α}(h:l.length=7):∃a0 a1 a2 a3 a4 a5 a6,l=[a0,a1,a2,a3,a4,a5,a6]:=by
 match l,h with
 | [a0,a1,a2,a3,a4,a5,a6],_=>exact ⟨_,_,_,_,_,_,_,rfl⟩
theorem fld {n:Nat}{fs:Array Field}{cs:List Value}{xs:List (DataW H×List MemPlace)}(hf:∀(i:Nat) (f:Field),fs[i]?=some f->DataW.trod enc Tryd.prog w 0 (fun _=>true) true n f.type ((cs.drop f.offset).take (Tryd.prog.cellsOf f.type))=xs[i]?)
 (i:Nat) (f:Field) (h:fs[i]?=some f) (t:TypeId) (o c:Nat) (ht:f.type=t) (ho:f.offset=o) (hc:Tryd.prog.cellsOf t=c) (hi:i<xs.length):DataW.trod enc Tryd.prog w 0 (fun _=>true) true n t ((cs.drop o).take c)=some xs[i]:=by
 subst ht ho hc;rw [hf i f h,List.getElem?_eq_getElem hi]
theorem aj3 {fuel:Nat}{cs:List Value}{x:DataW H×List MemPlace}(h:DataW.trod enc Tryd.prog w 0 (fun _=>true) true fuel 42 cs=some x):∃(o:j8) (bv:Value),cs=[.int .i64 o.thread,.int .i64 o.kind,.int .i64 o.a,.int .i64 o.b,.int .i64 o.c,.int .i64 o.d,bv]/\o.Ok/\fj w bv o.bits:=by
 obtain ⟨xs,n,rfl,rfl,hlen,hxl,hf⟩:=DataW.trod_struct Tryd.underlying42 h;rw [bp0] at hlen;obtain ⟨a0,a1,a2,a3,a4,a5,a6,rfl⟩:=b70 hlen;have hxl:xs.length=7:=hxl;have f0:DataW.trod enc Tryd.prog w 0 (fun _=>true) true n 3 [a0]=some xs[0]:=fld hf 0 _ rfl 3 0 1 rfl rfl ta (by omega);have f1:DataW.trod enc Tryd.prog w 0 (fun _=>true) true n 3 [a1]=some xs[1]:=fld hf 1 _ rfl 3 1 1 rfl rfl ta (by omega);have f2:DataW.trod enc Tryd.prog w 0 (fun _=>true) true n 3 [a2]=some xs[2]:=fld hf 2 _ rfl 3 2 1 rfl rfl ta (by omega);have f3:DataW.trod enc Tryd.prog w 0 (fun _=>true) true n 3 [a3]=some xs[3]:=fld hf 3 _ rfl 3 3 1 rfl rfl ta (by omega);have f4:DataW.trod enc Tryd.prog w 0 (fun _=>true) true n 3 [a4]=some xs[4]:=fld hf 4 _ rfl 3 4 1 rfl rfl ta (by omega);have f5:DataW.trod enc Tryd.prog w 0 (fun _=>true) true n 3 [a5]=some xs[5]:=fld hf 5 _ rfl 3 5 1 rfl rfl ta (by omega);have f6:DataW.trod enc Tryd.prog w 0 (fun _=>true) true n 40 [a6]=some xs[6]:=fld hf 6 _ rfl 40 6 1 rfl rfl bw_ (by omega);obtain ⟨z0,e0,_,w0⟩:=DataW.trod_int Tryd.underlying3 f0;obtain ⟨z1,e1,_,w1⟩:=DataW.trod_int Tryd.underlying3 f1;obtain ⟨z2,e2,_,w2⟩:=DataW.trod_int Tryd.underlying3 f2;obtain ⟨z3,e3,_,w3⟩:=DataW.trod_int Tryd.underlying3 f3;obtain ⟨z4,e4,_,w4⟩:=DataW.trod_int Tryd.underlying3 f4;obtain ⟨z5,e5,_,w5⟩:=DataW.trod_int Tryd.underlying3 f5;obtain ⟨bs,hB⟩:=aq5 f6;cases e0;cases e1;cases e2;cases e3;cases e4;cases e5
 exact ⟨⟨z0,z1,z2,z3,z4,z5,bs⟩,a6,rfl,⟨bounds_i64 w0,bounds_i64 w1,bounds_i64 w2,bounds_i64 w3,bounds_i64 w4,bounds_i64 w5⟩,hB⟩
theorem pf {fuel:Nat}{v:Value}{x:DataW H×List MemPlace}(h:DataW.trod enc Tryd.prog w 0 (fun _=>true) true fuel 37 [v]=some x):∃l,ol w v l/\l.length<=9223372036854775807:=by
 rcases Deep.open_slice Tryd.underlying37 h with ⟨hcs,_⟩ | ⟨a,len,cap,m,n,D,Pl,hcs,_,hl,hmx,hm,hx,hel⟩
 ·cases hcs
  exact ⟨[],⟨none,0,rfl,fun h=>absurd h (by decide)⟩,Nat.zero_le _⟩
 ·cases hcs
  have hm:m=cap:=hm;unfold maxLen at hmx;have hop:∀i,i<len->∃o:j8,∃bv,(∀j u,[Value.int .i64 o.thread,.int .i64 o.kind,.int .i64 o.a,.int .i64 o.b,.int .i64 o.c,.int .i64 o.d,bv][j]?=some u->w.cell? ((a.add (i*7)).add j)=some u)/\o.Ok/\fj w bv o.bits:=by
   intro i hi;obtain ⟨cs',h1,h2⟩:=hel i (by omega);rw [bp0] at h1;obtain ⟨o,bv,rfl,ho,hB⟩:=aj3 h2;exact ⟨o,bv,xm h1,ho,hB⟩
  haveI:Inhabited j8:=⟨⟨0,0,0,0,0,0,[]⟩⟩
  obtain ⟨f,hf⟩:=Deep.choose_lt hop;refine ⟨(List.range len).map f,⟨some a,cap,by simp,fun h0=>?_⟩,by simp;omega⟩
  obtain ⟨g,off,spot⟩:=a;obtain ⟨_,c0,_⟩:=hf 0 (by simpa using h0);have hspot:spot=none:=by simpa [Addr.add] using World.cell?_spot (c0 0 _ rfl)
  subst hspot;refine ⟨g,off,rfl,fun i hi=>?_⟩
  have hi':i<len:=by simpa using hi
  obtain ⟨bv,hc,ho,hB⟩:=hf i hi';have hc:∀j u,[Value.int .i64 (f i).thread,.int .i64 (f i).kind,.int .i64 (f i).a,.int .i64 (f i).b,.int .i64 (f i).c,.int .i64 (f i).d,bv][j]?=some u->w.cell? ⟨g,off+i*7+j,none⟩=some u:=fun j u hj=>by
   have:=hc j u hj;rw [Go.WideShapes.add_plain,Go.WideShapes.add_plain] at this;exact this
  have e:((List.range len).map f)[i]=f i:=by simp
  rw [e];exact ⟨ho,hc 0 _ rfl,hc 1 _ rfl,hc 2 _ rfl,hc 3 _ rfl,hc 4 _ rfl,hc 5 _ rfl,bv,hc 6 _ rfl,hB⟩
end
section
variable {H:Type} {enc:TypeId×Value->H} {w:World}
theorem b22 {α:Type}{l:List α}(h:l.length=2):∃a0 a1,l=[a0,a1]:=by
 match l,h with
 | [a0,a1],_=>exact ⟨_,_,rfl⟩
theorem aj4 {t:TypeId}{f0 f1:Field}{base fuel:Nat}{sp:Nat->Bool}{held:Bool}{cs:List Value}{a b:Int}{p:List MemPlace}(ht:Tryd.prog.underlying t=some (.struct #[f0,f1]))(h0:f0.type=3)(h1:f1.type=3)(o0:f0.offset=0)(o1:f1.offset=1)(hc:Tryd.prog.cellsOf t=2)
 (h:DataW.trod enc Tryd.prog w base sp held fuel t cs=some (.agg [.lit (.int .i64 a),.lit (.int .i64 b)],p)):cs=[.int .i64 a,.int .i64 b]:=by
 obtain ⟨xs,n,_,hx,hl,hxl,hf⟩:=DataW.trod_struct ht h;rw [hc] at hl;have hxl:xs.length=2:=hxl;obtain ⟨c0,c1,rfl⟩:=b22 hl;obtain ⟨x0,x1,rfl⟩:=b22 hxl;have g0:=hf 0 f0 rfl;have g1:=hf 1 f1 rfl;rw [h0,o0,ta] at g0;rw [h1,o1,ta] at g1;have g0:DataW.trod enc Tryd.prog w base sp held n 3 [c0]=some x0:=g0;have g1:DataW.trod enc Tryd.prog w base sp held n 3 [c1]=some x1:=g1;obtain ⟨y0,e0,z0,_⟩:=DataW.trod_int Tryd.underlying3 g0;obtain ⟨y1,e1,z1,_⟩:=DataW.trod_int Tryd.underlying3 g1;cases e0;cases e1
 subst z0;subst z1;simp only [Prod.mk.injEq,DataW.agg.injEq,List.map_cons,List.map_nil,List.cons.injEq,DataW.lit.injEq,Lit.int.injEq,true_and,and_true] at hx;rw [hx.1.1,hx.1.2]
theorem bz1 {l:List Value}{k:Nat}{x y:Value}(h:(l.drop k).take 2=[x,y]):l[k]?=some x/\l[k+1]?=some y:=by
 have h0:=congrArg (fun l=>l[0]?) h;have h1:=congrArg (fun l=>l[1]?) h;simp [List.getElem?_drop] at h0 h1;exact ⟨h0,h1⟩
end
theorem b39:Tryd.prog.globalNamed "escheat/escheat.bitsOf" = some 1:=by kernel_rfl
theorem b45:Tryd.prog.globalNamed "escheat/escheat.nowhere" = some 0:=by kernel_rfl
theorem b79:(Tryd.prog.globals[1]?).map (·.type)=some 161:=by kernel_rfl
theorem b80:(Tryd.prog.globals[0]?).map (·.type)=some 72:=by kernel_rfl
theorem bs4:Tryd.prog.cellsOf 160=2:=by kernel_rfl
theorem b48:Tryd.prog.cellsOf 72=2:=by kernel_rfl
theorem qc {W:World}(h':laidMet Tryd.prog [("escheat/escheat.bitsOf",Rows.laid_escheat_escheat_bitsOf),("escheat/escheat.nowhere",Rows.laid_escheat_escheat_nowhere)] W):fm W:=by
 obtain ⟨ps,⟨g,t,cs,fuel,p,q,hg,ht,hvar,hd,⟨g2,t2,cs2,fuel2,p2,q2,hg2,ht2,hvar2,hd2,_,_⟩,_⟩,_⟩:=h';obtain rfl:=Option.some.inj (b39.symm.trans hg);obtain rfl:=Option.some.inj (b79.symm.trans ht);obtain rfl:=Option.some.inj (b45.symm.trans hg2);obtain rfl:=Option.some.inj (b80.symm.trans ht2);have hn:=aj4 Tryd.underlying72 rfl rfl rfl rfl b48 hd2;obtain ⟨xs,m,_,hx,hl,hxl,hf⟩:=DataW.trod_array Tryd.underlying161 hd;match xs,hxl with
 | [x0,x1,x2,x3,x4,x5],_=>
  simp only [Rows.laid_escheat_escheat_bitsOf,Prod.mk.injEq,DataW.agg.injEq,List.map_cons,List.map_nil,List.cons.injEq,and_true] at hx;obtain ⟨⟨e0,e1,e2,e3,e4,e5⟩,_⟩:=hx;have pr:∀(i:Nat) (hi:i<6) (x:DataW Unit×List MemPlace) (a b:Int),[x0,x1,x2,x3,x4,x5][i]?=some x->DataW.agg [.lit (.int .i64 a),.lit (.int .i64 b)]=x.1->W.cell? ⟨1,i*2,none⟩=some (.int .i64 a)/\W.cell? ⟨1,i*2+1,none⟩=some (.int .i64 b):=by
   intro i hi x a b h1 h2;have h3:=hf i hi;rw [h1,bs4] at h3;obtain ⟨xd,xp⟩:=x;have h2:DataW.agg [.lit (.int .i64 a),.lit (.int .i64 b)]=xd:=h2;subst h2;have h4:=bz1 (aj4 Tryd.underlying160 rfl rfl rfl rfl bs4 h3);rw [World.var?_cell b39 hvar,World.var?_cell b39 hvar];simpa using h4
  refine ⟨?_,?_,fun i hi=>?_⟩
  ·rw [World.var?_cell b45 hvar2];have:=congrArg (fun l=>l[0]?) hn;simpa using this
  ·rw [World.var?_cell b45 hvar2];have:=congrArg (fun l=>l[1]?) hn;simpa using this
  ·have:i=0\/i=1\/i=2\/i=3\/i=4\/i=5:=by omega
   rcases this with rfl | rfl | rfl | rfl | rfl | rfl
   ·exact pr 0 (by decide) _ _ _ rfl e0
   ·exact pr 1 (by decide) _ _ _ rfl e1
   ·exact pr 2 (by decide) _ _ _ rfl e2
   ·exact pr 3 (by decide) _ _ _ rfl e3
   ·exact pr 4 (by decide) _ _ _ rfl e4
   ·exact pr 5 (by decide) _ _ _ rfl e5
theorem qk {w w':World}(h:Fr w w' (fun _=>False)):RowKit.Below w.heap.size w w':=⟨h.os,h.tape,h.output,h.size,fun k hk=>h.block k hk id⟩
theorem a96:ownKnob Tryd.prog.godebug=none:=by kernel_rfl
def a2_ (cs:Array Value):Obj->Obj
 | .cells _ t frozen=>.cells cs t frozen
 | o=>o
def j3 (w:World):World:=
 {w with heap:=((w.heap.modify 0 (a2_ #[.int .i64 (-1),.int .i64 (-1)])).modify 1 (a2_ #[.int .i64 1,.int .i64 0,.int .i64 4,.int .i64 10,.int .i64 3,.int .i64 6,.int .i64 2,.int .i64 2,.int .i64 4,.int .i64 4,.int .i64 2,.int .i64 6]))}
end Go.Proofs.YtdpjgflemddekaaDoor
