/- The argument: a script, opened. -/
import Derived.Test.YtdpjgflemddekaaGreatDoorMTRo
import Derived.ProofKit
import Derived.OpenShut
import Derived.Deep.Slices
import Derived.SizedLaws
import Derived.Deep.DeepHandedRow
import Derived.Lib.LaidTab
namespace Go.Proofs.YtdpjgflemddekaaGreatDoor
open Go.ChangeShapes Go.WideShapes Go.RowKit
def Fit {H:Type}(t:TypeId)(d:DataW H):Prop:=∀n∈d.weights Tryz.prog t,n<=reachBytes
theorem be_ {H:Type}{t:TypeId}{d:DataW H}{n:Nat}(hn:n∈d.weights Tryz.prog t):∀{l:List (DataW H)},d∈l->n∈DataW.weightsAll Tryz.prog t l
 | x :: r,h=>by
  simp only [DataW.weightsAll,List.mem_append];rcases List.mem_cons.1 h with rfl | e
  ·exact .inl hn
  ·exact .inr (be_ hn e)
theorem ae5 {H:Type}{t e:TypeId}{es sp:List (DataW H)}(h:Fit t (.slice es sp))(hu:Tryz.prog.underlying t=some (.slice e)):(es.length+sp.length)*Tryz.prog.bytesOf e<=reachBytes/\∀d∈es,Fit e d:=by
 unfold Fit at h;rw [DataW.weights,hu] at h;exact ⟨h _ (by simp),fun d hd n hn=>h n (by simp [be_ hn hd])⟩
theorem aa8 {H:Type}{t:TypeId}{fs:Array Field}{ps:List (DataW H)}(h:Fit t (.agg ps))(hu:Tryz.prog.underlying t=some (.struct fs)){j:Nat}{e:TypeId}{d:DataW H}(he:(fs.toList.map (·.type))[j]?=some e)(hd:ps[j]?=some d):Fit e d:=by
 unfold Fit at h;rw [DataW.weights,hu] at h;exact fun n hn=>h n (DataW.weights_mem_each he hd n hn)
theorem b53:Tryz.prog.bytesOf 3=8:=by kernel_rfl
theorem b66:Tryz.prog.bytesOf 4=1:=by kernel_rfl
theorem b30:Tryz.prog.bytesOf 56=168:=by kernel_rfl
section
variable {H:Type} {enc:TypeId×Value->H} {w:World}
theorem o8:Tryz.prog.cellsOf 3=1:=by kernel_rfl
theorem bp0:Tryz.prog.cellsOf 4=1:=by kernel_rfl
theorem bh7:Tryz.prog.cellsOf 39=1:=by kernel_rfl
theorem b0_:Tryz.prog.cellsOf 54=1:=by kernel_rfl
theorem b01:Tryz.prog.cellsOf 41=10:=by kernel_rfl
theorem bh0:Tryz.prog.cellsOf 56=15:=by kernel_rfl
theorem ay.lt {v:Value}{l:List Int}(h:ay w v l):0<l.length->∀k,v.ownBlock=some k->k<w.heap.size:=by
 obtain ⟨A,cap,rfl,hA⟩:=h;intro h0 k hk;obtain ⟨g,o,rfl,hc⟩:=hA h0;cases hk
 exact World.block_lt_of_cell? _ _ (hc 0 h0)
theorem ar6 {fuel:Nat}{v:Value}{x:DataW H×List MemPlace}(h:DataW.trod enc Tryz.prog w 0 (fun _=>true) true fuel 39 [v]=some x)(hw:Fit 39 x.1):∃l:List Int,ay w v l/\l.length<=17592186044416:=by
 rcases open_ints Tryz.underlying39 Tryz.underlying3 o8 h with ⟨hcs,_⟩ | ⟨a,len,cap,zs,hcs,_,hl,_,hz,hx,hcell,_⟩
 ·cases hcs
  exact ⟨[],⟨none,0,rfl,fun h=>absurd h (by decide)⟩,Nat.zero_le _⟩
 ·cases hcs
  have hz:zs.length=cap:=hz;have hll:(zs.take len).length=len:=by rw [List.length_take];omega
  refine ⟨zs.take len,⟨some a,cap,by rw [hll],fun h0=>?_⟩,?_⟩
  ·obtain ⟨b,off,rfl,hc⟩:=ints_at hcell (by rw [hll] at h0;omega);refine ⟨b,off,rfl,fun i hi=>?_⟩
   rw [hc i (by omega)];simp [List.getD,List.getElem?_eq_getElem (show i<zs.length by omega)]
  ·rw [hx] at hw;have:=(ae5 hw Tryz.underlying39).1;rw [b53] at this;simp only [lits,List.length_map,reachBytes] at this;omega
theorem b50 {α:Type}{l:List α}(h:l.length=15):∃a0 a1 a2 a3 a4 a5 a6 a7 a8 a9 a10 a11 a12 a13 a14,l=[a0,a1,a2,a3,a4,a5,a6,a7,a8,a9,a10,a11,a12,a13,a14]:=by
 match l,h with
 | [a0,a1,a2,a3,a4,a5,a6,a7,a8,a9,a10,a11,a12,a13,a14],_=>exact ⟨_,_,_,_,_,_,_,_,_,_,_,_,_,_,_,rfl⟩
theorem fld {n:Nat}{fs:Array Field}{cs:List Value}{xs:List (DataW H×List MemPlace)}(hf:∀(i:Nat) (f:Field),fs[i]?=some f->DataW.trod enc Tryz.prog w 0 (fun _=>true) true n f.type ((cs.drop f.offset).take (Tryz.prog.cellsOf f.type))=xs[i]?)
 (i:Nat) (f:Field) (h:fs[i]?=some f) (t:TypeId) (o c:Nat) (ht:f.type=t) (ho:f.offset=o) (hc:Tryz.prog.cellsOf t=c) (hi:i<xs.length):DataW.trod enc Tryz.prog w 0 (fun _=>true) true n t ((cs.drop o).take c)=some xs[i]:=by
 subst ht ho hc;rw [hf i f h,List.getElem?_eq_getElem hi]
theorem an8 {base:Nat}{a:Addr}{n:Nat}{cs:List Value}(h:w.cells? base a n=some cs)(j:Nat)(u:Value)(hj:cs[j]?=some u):w.cell? (a.add j)=some u:=by
 unfold World.cells? at h;split at h
 ·have hl:=Lib.mapM_length h;have hjl:j<cs.length:=(List.getElem?_eq_some_iff.1 hj).1;obtain ⟨b,hb,hc⟩:=Lib.mapM_at h j j (by rw [List.length_range] at hl;rw [List.getElem?_range (by omega)]);rw [hj] at hb;cases hb;exact hc
 ·cases h
theorem bj3 {fuel:Nat}{v:Value}{x:DataW H×List MemPlace}(h:DataW.trod enc Tryz.prog w 0 (fun _=>true) true fuel 54 [v]=some x)(hw:Fit 54 x.1):∃l:List Bool,eo w v l/\l.length<=140737488351232:=by
 rcases Deep.open_slice Tryz.underlying54 h with ⟨hcs,_⟩ | ⟨a,len,cap,m,n,D,Pl,hcs,_,hl,_,hm,hx,hel⟩
 ·cases hcs
  exact ⟨[],⟨none,0,rfl,Nat.le_refl _,fun h=>absurd h (by decide)⟩,Nat.zero_le _⟩
 ·cases hcs
  have hm:m=cap:=hm;have hop:∀i,i<len->∃b:Bool,w.cell? (a.add i)=some (.bool b):=by
   intro i hi;obtain ⟨cs',h1,h2⟩:=hel i (by omega);rw [bp0] at h1;obtain ⟨b,e,_⟩:=DataW.trod_bool Tryz.underlying4 h2;subst e;have:=an8 h1 0 _ rfl;rw [Nat.mul_one] at this;exact ⟨b,by simpa [Addr.add] using this⟩
  obtain ⟨f,hf⟩:=Deep.choose_lt hop;refine ⟨(List.range len).map f,⟨some a,cap,by simp,by simp;omega,fun h0=>?_⟩,?_⟩
  ·obtain ⟨g,off,spot⟩:=a;have c0:=hf 0 (by simpa using h0);have hspot:spot=none:=by simpa [Addr.add] using World.cell?_spot c0
   subst hspot;refine ⟨g,off,rfl,fun i hi=>?_⟩
   have hi':i<len:=by simpa using hi
   have:=hf i hi';rw [Go.WideShapes.add_plain] at this;simpa using this
  ·rw [hx] at hw;have:=(ae5 hw Tryz.underlying54).1;rw [b66] at this;simp only [List.length_map,List.length_range,reachBytes] at this ⊢;omega
theorem eo.lt {v:Value}{l:List Bool}(h:eo w v l)(h0:0<l.length)(k:Nat)(hk:v.ownBlock=some k):k<w.heap.size:=by
 obtain ⟨A,cap,rfl,h1,hA⟩:=h;obtain ⟨g,o,rfl,hc⟩:=hA h0;have:g=k:=by simpa [Value.ownBlock] using hk
 subst this;exact World.block_lt_of_cell? _ _ (hc 0 h0)
theorem b09 {fuel:Nat}{cs:List Value}{x:DataW H×List MemPlace}(h:DataW.trod enc Tryz.prog w 0 (fun _=>true) true fuel 56 cs=some x)(hw:Fit 56 x.1):∃o:OpD,cs=o.vals/\b68 w o:=by
 obtain ⟨xs,n,rfl,rfl,hlen,hxl,hf⟩:=DataW.trod_struct Tryz.underlying56 h;rw [bh0] at hlen;obtain ⟨a0,a1,a2,a3,a4,a5,a6,a7,a8,a9,a10,a11,a12,a13,a14,rfl⟩:=b50 hlen;have hxl:xs.length=6:=hxl;have f0:DataW.trod enc Tryz.prog w 0 (fun _=>true) true n 3 [a0]=some xs[0]:=fld hf 0 _ rfl 3 0 1 rfl rfl o8 (by omega);have f1:DataW.trod enc Tryz.prog w 0 (fun _=>true) true n 3 [a1]=some xs[1]:=fld hf 1 _ rfl 3 1 1 rfl rfl o8 (by omega);have f2:DataW.trod enc Tryz.prog w 0 (fun _=>true) true n 41 [a2,a3,a4,a5,a6,a7,a8,a9,a10,a11]=some xs[2]:=fld hf 2 _ rfl 41 2 10 rfl rfl b01 (by omega);have f3:DataW.trod enc Tryz.prog w 0 (fun _=>true) true n 54 [a12]=some xs[3]:=fld hf 3 _ rfl 54 12 1 rfl rfl b0_ (by omega);have f4:DataW.trod enc Tryz.prog w 0 (fun _=>true) true n 3 [a13]=some xs[4]:=fld hf 4 _ rfl 3 13 1 rfl rfl o8 (by omega);have f5:DataW.trod enc Tryz.prog w 0 (fun _=>true) true n 4 [a14]=some xs[5]:=fld hf 5 _ rfl 4 14 1 rfl rfl bp0 (by omega);obtain ⟨ask,e0,_,_⟩:=DataW.trod_int Tryz.underlying3 f0;obtain ⟨th,e1,_,w1⟩:=DataW.trod_int Tryz.underlying3 f1;obtain ⟨nn,e4,_,w4⟩:=DataW.trod_int Tryz.underlying3 f4;obtain ⟨which,e5,_⟩:=DataW.trod_bool Tryz.underlying4 f5;have hx2:(xs.map (·.1))[2]?=some xs[2].1:=by simp [hxl]
 have hx3:(xs.map (·.1))[3]?=some xs[3].1:=by simp [hxl]
 have hw2:Fit 41 xs[2].1:=aa8 (j:=2) hw Tryz.underlying56 rfl hx2;have hw3:Fit 54 xs[3].1:=aa8 (j:=3) hw Tryz.underlying56 rfl hx3;obtain ⟨ys,m,_,hy,_,hyl,hg⟩:=DataW.trod_struct Tryz.underlying41 f2;have hyl:ys.length=10:=hyl;rw [hy] at hw2;dsimp only at hw2;have hy1:(ys.map (·.1))[1]?=some ys[1].1:=by simp [hyl]
 have hy2:(ys.map (·.1))[2]?=some ys[2].1:=by simp [hyl]
 have g0:DataW.trod enc Tryz.prog w 0 (fun _=>true) true m 3 [a2]=some ys[0]:=fld hg 0 _ rfl 3 0 1 rfl rfl o8 (by omega);have g1:DataW.trod enc Tryz.prog w 0 (fun _=>true) true m 39 [a3]=some ys[1]:=fld hg 1 _ rfl 39 1 1 rfl rfl bh7 (by omega);have g2:DataW.trod enc Tryz.prog w 0 (fun _=>true) true m 39 [a4]=some ys[2]:=fld hg 2 _ rfl 39 2 1 rfl rfl bh7 (by omega);have g3:DataW.trod enc Tryz.prog w 0 (fun _=>true) true m 3 [a5]=some ys[3]:=fld hg 3 _ rfl 3 3 1 rfl rfl o8 (by omega);have g4:DataW.trod enc Tryz.prog w 0 (fun _=>true) true m 3 [a6]=some ys[4]:=fld hg 4 _ rfl 3 4 1 rfl rfl o8 (by omega);have g5:DataW.trod enc Tryz.prog w 0 (fun _=>true) true m 3 [a7]=some ys[5]:=fld hg 5 _ rfl 3 5 1 rfl rfl o8 (by omega);have g6:DataW.trod enc Tryz.prog w 0 (fun _=>true) true m 3 [a8]=some ys[6]:=fld hg 6 _ rfl 3 6 1 rfl rfl o8 (by omega);have g7:DataW.trod enc Tryz.prog w 0 (fun _=>true) true m 3 [a9]=some ys[7]:=fld hg 7 _ rfl 3 7 1 rfl rfl o8 (by omega);have g8:DataW.trod enc Tryz.prog w 0 (fun _=>true) true m 3 [a10]=some ys[8]:=fld hg 8 _ rfl 3 8 1 rfl rfl o8 (by omega);have g9:DataW.trod enc Tryz.prog w 0 (fun _=>true) true m 3 [a11]=some ys[9]:=fld hg 9 _ rfl 3 9 1 rfl rfl o8 (by omega);obtain ⟨z0,q0,_,_⟩:=DataW.trod_int Tryz.underlying3 g0;obtain ⟨z3,q3,_,_⟩:=DataW.trod_int Tryz.underlying3 g3;obtain ⟨z4,q4,_,_⟩:=DataW.trod_int Tryz.underlying3 g4;obtain ⟨z5,q5,_,_⟩:=DataW.trod_int Tryz.underlying3 g5;obtain ⟨z6,q6,_,_⟩:=DataW.trod_int Tryz.underlying3 g6;obtain ⟨z7,q7,_,_⟩:=DataW.trod_int Tryz.underlying3 g7;obtain ⟨z8,q8,_,_⟩:=DataW.trod_int Tryz.underlying3 g8;obtain ⟨z9,q9,_,_⟩:=DataW.trod_int Tryz.underlying3 g9;obtain ⟨l1,i1,b1⟩:=ar6 g1 (aa8 (j:=1) hw2 Tryz.underlying41 rfl hy1);obtain ⟨l2,i2,b2⟩:=ar6 g2 (aa8 (j:=2) hw2 Tryz.underlying41 rfl hy2);obtain ⟨l3,i3,b3⟩:=bj3 f3 hw3;cases e0;cases e1;cases e4;cases e5;cases q0;cases q3;cases q4;cases q5;cases q6;cases q7;cases q8;cases q9
 exact ⟨⟨ask,th,⟨z0,l1,l2,z3,z4,z5,z6,z7,z8,z9⟩,a3,a4,a12,nn,which,l3⟩,rfl,⟨i1,i2,b1,b2,i1.lt,i2.lt,(bounds_i64 w1).1,(bounds_i64 w1).2,(bounds_i64 w4).1,(bounds_i64 w4).2,i3,b3,i3.lt⟩⟩
end
section
variable {H:Type} {enc:TypeId×Value->H} {w:World}
theorem sl {fuel:Nat}{v:Value}{x:DataW H×List MemPlace}(h:DataW.trod enc Tryz.prog w 0 (fun _=>true) true fuel 22 [v]=some x)(hw:Fit 22 x.1):∃l,sa w v l:=by
 rcases Deep.open_slice Tryz.underlying22 h with ⟨hcs,_⟩ | ⟨a,len,cap,m,n,D,Pl,hcs,_,hl,_,hm,hx,hel⟩
 ·cases hcs
  exact ⟨[],⟨⟨none,0,rfl,fun h=>absurd h (by decide)⟩,(fun o ho=>absurd ho (by simp)),Nat.zero_le _⟩⟩
 ·cases hcs
  have hm:m=cap:=hm;rw [hx] at hw;dsimp only at hw;obtain ⟨hs,hD⟩:=ae5 hw Tryz.underlying22;rw [b30] at hs;simp only [List.length_map,List.length_range,reachBytes] at hs;have hop:∀i,i<len->∃o:OpD,(∀j u,o.vals[j]?=some u->w.cell? ((a.add (i*15)).add j)=some u)/\b68 w o:=by
   intro i hi;obtain ⟨cs',h1,h2⟩:=hel i (by omega);rw [bh0] at h1;obtain ⟨o,rfl,ho⟩:=b09 h2 (hD (D i) (List.mem_map.2 ⟨i,by simpa using hi,rfl⟩));exact ⟨o,an8 h1,ho⟩
  haveI:Inhabited OpD:=⟨⟨0,0,⟨0,[],[],0,0,0,0,0,0,0⟩,.slice none 0 0,.slice none 0 0,.slice none 0 0,0,false,[]⟩⟩
  obtain ⟨f,hf⟩:=Deep.choose_lt hop;refine ⟨(List.range len).map f,⟨⟨some a,cap,by simp,fun h0=>?_⟩,?_,?_⟩⟩
  ·obtain ⟨g,off,spot⟩:=a;have c0:=(hf 0 (by simpa using h0)).1 0 _ rfl;have hspot:spot=none:=by simpa [Addr.add] using World.cell?_spot c0
   subst hspot;refine ⟨g,off,rfl,fun i hi j x hx=>?_⟩
   have hi':i<len:=by simpa using hi
   have:=(hf i hi').1 j x (by simpa using hx);rw [Go.WideShapes.add_plain,Go.WideShapes.add_plain] at this;exact this
  ·intro o ho;obtain ⟨i,hi,rfl⟩:=List.mem_map.1 ho;exact (hf i (by simpa using hi)).2
  ·simp;omega
end
end Go.Proofs.YtdpjgflemddekaaGreatDoor
