/- The statements' own small functions: lent. -/
import Derived.Test.YtdpjgflemddekaaGreatDoorMRefA
import Derived.Test.YtdpjgflemddekaaGreatDoorMCodeK
import Derived.Test.YtdpjgflemddekaaGreatDoorMInvB
import Derived.Laws.CopyOwn
import Derived.Deep.OwnRows
set_option maxRecDepth 100000
set_option maxHeartbeats 4000000
namespace Go.Proofs.YtdpjgflemddekaaGreatDoor
open Go.RowKit
def mw (l:List Int):List Value:=l.map (Value.int .i64)
theorem bf0:(Tryz.prog.info? 3).map (fun i=>(i.zero,i.size,i.bytes))=some (some (.int .i64 0),1,8):=by kernel_rfl
theorem bg_:(Tryz.prog.info? 3).map (·.size)=some 1:=by kernel_rfl
theorem bj9 (g o cap:Nat)(l:List Int)(w:World)(hl:l.length<=17592186044416)(h0:0<l.length)(hc:∀i (hi:i<l.length),w.cell? ⟨g,o+i,none⟩=some (.int .i64 l[i])):
 Calls Tryz.prog 47 #[.slice (some ⟨g,o,none⟩) l.length cap] w fun e' w'=>e'=.returned (.slice (some ⟨w.heap.size,0,none⟩) (l.length+1) (l.length+1))/\
  w'.heap[w.heap.size]?=some (.cells (mw (l++[78])).toArray 3 (0,0))/\Fr w w' (fun _=>False):=by
 have hmk:=fun w'=>run_make_row' 39 3 (.int .i64 0) 8 Tryz.underlying39 bf0 rfl .i64 .i64 (l.length+1) (by omega) (by omega) w'
 have ec:((l.length+1:Nat):Int)=(l.length:Int)+1:=by omega
 simp only [ec] at hmk;clear ec;have hglt:g<w.heap.size:=World.block_lt_of_cell? w _ (hc 0 h0);have hrow:(mw l).length=l.length:=by simp [mw]
 have hsrc:∀j v,(mw l)[j]?=some v->w.cell? ((⟨g,o,none⟩:Addr).add j)=some v:=by
  intro j v hv;rw [mp];have hj:j<l.length:=by have:=(List.getElem?_eq_some_iff.1 hv).1;omega
  simp only [mw,List.getElem?_map,List.getElem?_eq_getElem hj,Option.map_some,Option.some.injEq] at hv;rw [<- hv];exact hc j hj
 have hb1:=heap_alloc_new w (.cells (madeCells #[.int .i64 0] (l.length+1)) 3);have hf1:Fr w (w.alloc (.cells (madeCells #[.int .i64 0] (l.length+1)) 3)) (fun _=>False):=(Fr.refl _ _).alloc _;have hsrc1:∀j v,(mw l)[j]?=some v->(w.alloc (.cells (madeCells #[.int .i64 0] (l.length+1)) 3)).cell? ((⟨g,o,none⟩:Addr).add j)=some v:=fun j v hv=>hf1.cell (hsrc j v hv) id
 go_enter Tryz.func47,Tryz.ntmps47
 go_upto_region 3 with (refine wpList_copy_own rfl _ _ 39 39 rfl 3 Tryz.underlying39 bg_ w.heap.size 0 _ _ ⟨g,o,none⟩ _ _ rfl rfl _ _ hb1 (mw l) ?_ hsrc1 ?_ ?_ ?_)
 ·rw [hrow];exact (Nat.min_eq_left (by omega)).symm
 ·rw [hrow,size_madeCells];omega
 ·intro v hv;simp only [mw,List.mem_map] at hv;obtain ⟨x,_,rfl⟩:=hv;rfl
 have hD:(List.drop (0+(mw l).length) (madeCells #[Value.int IntKind.i64 0] (l.length+1)).toList).length=1:=by
  rw [List.length_drop,Array.length_toList,size_madeCells,hrow];omega
 have hb2:=setRow_heap _ w.heap.size _ (List.take 0 (madeCells #[Value.int IntKind.i64 0] (l.length+1)).toList++(mw l++List.drop (0+(mw l).length) (madeCells #[Value.int IntKind.i64 0] (l.length+1)).toList)).toArray _ _ hb1;have hf2:Fr w ((w.alloc (Obj.cells (madeCells #[Value.int IntKind.i64 0] (l.length+1)) 3)).setRow w.heap.size (List.take 0 (madeCells #[Value.int IntKind.i64 0] (l.length+1)).toList++(mw l++List.drop (0+(mw l).length) (madeCells #[Value.int IntKind.i64 0] (l.length+1)).toList)).toArray) (fun _=>False):=
  ⟨hf1.os,hf1.tape,hf1.output,by simp [World.setRow],fun k hk hn=>by rw [setRow_other _ _ _ _ (by omega)];exact hf1.block k hk hn⟩
 generalize List.drop (0+(mw l).length) (madeCells #[Value.int IntKind.i64 0] (l.length+1)).toList=D at *
 generalize (w.alloc (Obj.cells (madeCells #[Value.int IntKind.i64 0] (l.length+1)) 3)).setRow w.heap.size (List.take 0 (madeCells #[Value.int IntKind.i64 0] (l.length+1)).toList++(mw l++D)).toArray=W2 at *
 simp only [List.take_zero,List.nil_append] at hb2;have hcell:∃v,W2.cell? ⟨w.heap.size,l.length,none⟩=some v:=by
  have hlt:l.length<(mw l++D).length:=by rw [List.length_append,hrow,hD];omega
  exact ⟨(mw l++D)[l.length],aa hb2 (by rw [List.getElem?_toArray];exact List.getElem?_eq_getElem hlt)⟩
 obtain ⟨vv,hcell⟩:=hcell;have hfz:W2.frozen? ⟨w.heap.size,l.length,none⟩=false:=ab hb2;have hb3:=ak W2 w.heap.size l.length (.int .i64 78) hb2;have hf3:Fr w (W2.setCell ⟨w.heap.size,l.length,none⟩ (.int .i64 78)) (fun _=>False):=hf2.setCell (.inr (Nat.le_refl _)) _ _;have hfin:(mw l++D).toArray.setIfInBounds l.length (.int .i64 78)=(mw (l++[78])).toArray:=by
  obtain ⟨d,rfl⟩:∃d,D=[d]:=by
   cases D with
   | nil=>simp at hD
   | cons d r=>cases r with
    | nil=>exact ⟨d,rfl⟩
    | cons _ _=>simp at hD
  apply Array.toList_inj.1;rw [Array.toList_setIfInBounds];show List.set (mw l++[d]) _ _=mw (l++[78]);rw [List.set_append_right _ _ (by omega)];simp [mw]
 rw [hfin] at hb3;clear hb2 hb1 hsrc hsrc1 hf1 hf2 hmk hD hfin hc;go_wp2;go_ret;exact ⟨rfl,hb3,hf3⟩
theorem b78:madeCells #[Value.int IntKind.i64 0] 1=#[Value.int IntKind.i64 0]:=by
 simp only [madeCells];rw [show Array.range 1=#[0] by decide];simp
theorem bi8 (A:Option Addr)(cap:Nat)(w:World):
 Calls Tryz.prog 47 #[.slice A 0 cap] w fun e' w'=>e'=.returned (.slice (some ⟨w.heap.size,0,none⟩) 1 1)/\
  w'.heap[w.heap.size]?=some (.cells (mw [78]).toArray 3 (0,0))/\Fr w w' (fun _=>False):=by
 have hmk:∀w':World,(Instr.makeSlice 39 (.int .i64 1) (.int .i64 1)).run Tryz.prog w'=.ok (.slice (some ⟨w'.heap.size,0,none⟩) 1 1) (w'.alloc (.cells #[.int .i64 0] 3)):=fun w'=>by
  have hx:=run_make_row' 39 3 (.int .i64 0) 8 Tryz.underlying39 bf0 rfl .i64 .i64 1 (by omega) (by omega) w';rw [b78] at hx;exact hx
 go_enter Tryz.func47,Tryz.ntmps47
 go_upto_region 3 with (refine wpList_copy_nothing rfl _ _ 39 39 rfl 3 Tryz.underlying39 bg_ _ _ _ _ _ _ rfl rfl (Nat.zero_min _) ?_)
 go_wp2;go_ret;exact ⟨rfl,heap_alloc_new _ _,(Fr.refl _ _).alloc _⟩
theorem az8 (lv:Value)(l:List Int)(w:World)(hl:l.length<=17592186044416)(h:ay w lv l):
 Calls Tryz.prog 47 #[lv] w fun e' w'=>e'=.returned (.slice (some ⟨w.heap.size,0,none⟩) (l.length+1) (l.length+1))/\
  w'.heap[w.heap.size]?=some (.cells (mw (l++[78])).toArray 3 (0,0))/\Fr w w' (fun _=>False):=by
 obtain ⟨A,cap,rfl,hA⟩:=h;cases l with
 | nil=>exact bi8 A cap w
 | cons x l=>
  obtain ⟨g,o,rfl,hc⟩:=hA (by simp);exact bj9 g o cap (x :: l) w hl (by simp) hc
def a79 (w:World)(sb kx ky:Nat):Prop:=w.heap[sb]?=some (.cells #[.pointer (some ⟨kx,0,none⟩),.pointer (some ⟨ky,0,none⟩)] 53 (0,0))
theorem a47 (R:dq)(VR:ax)(VK:ah)(kx ky sb:Nat)(b:Int)(w:World)(hs:a79 w sb kx ky)(hK:aq w kx VK)(hR:aj w ky R VR)(hn:R.T.length<=1000000)
 (ht:VK.ker.thr b=(R.T.find? (af b)).map ej.thd) :
 Calls Tryz.prog 26 #[.pointer (some ⟨sb,0,none⟩),.int .i64 b] w fun e w'=>e=.returned (.bool true)/\Fr w w' (fun _=>False):=by
 have s0:w.cell? ⟨sb,0,none⟩=some (.pointer (some ⟨kx,0,none⟩)):=aa (o:=0) hs rfl;have s1:w.cell? ⟨sb,1,none⟩=some (.pointer (some ⟨ky,0,none⟩)):=aa (o:=1) hs rfl;have hlt:=World.block_lt_of_cell? _ _ s0;cases hf:R.T.find? (af b) with
 | none=>
  have e1:bd0 (VK.ker.thr b)=.returned (.tuple #[.agg #[.int .i64 0,.int .i64 0,.int .i64 0,.int .i64 0,.int .i64 0],.int .i64 1]):=by rw [ht,hf];rfl
  have e2:yy (R.T.find? (af b))=.tuple #[.agg #[.int .i64 0,.int .i64 0,.int .i64 0,.int .i64 0,.int .i64 0],.bool false]:=by rw [hf];rfl
  clear hf ht;go_enter Tryz.func26,Tryz.ntmps26
  go_wp2_with (first
   |(go_at_call 50;refine (ag3 VK kx b w hK).mono ?_;rintro e W1 ⟨he,hf1⟩;rw [e1] at he;subst he;have s1':=hf1.cell s1 id;have hlt1:=Nat.lt_of_lt_of_le hlt hf1.size)
   |(go_at_call 51;refine (af9 R VR ky b _ (hR.frame (hf1.alloc _) (fun _ _=>id)) hn).mono ?_;rintro e W2 ⟨he,hf2⟩;rw [e2] at he;subst he;have hb5:=hf2.same (heap_alloc_new _ _) id;have hlt5:=(Array.getElem?_eq_some_iff.1 hb5).1
     have q0:=aa (o:=0) hb5 rfl;have q1:=aa (o:=1) hb5 rfl;have q2:=aa (o:=2) hb5 rfl;have q3:=aa (o:=3) hb5 rfl;have q4:=aa (o:=4) hb5 rfl))
  go_ret;exact ⟨rfl,((hf1.alloc _).step hf2 (fun _=>False.elim)).alloc _⟩
 | some t=>
  have e1:bd0 (VK.ker.thr b)=.returned (.tuple #[.agg #[.int .i64 t.state,.int .i64 t.root,.int .i64 t.value,.int .i64 t.badge,.int .i64 t.err],.int .i64 0]):=by rw [ht,hf];rfl
  have e2:yy (R.T.find? (af b))=.tuple #[.agg #[.int .i64 t.state,.int .i64 t.root,.int .i64 t.value,.int .i64 t.badge,.int .i64 t.err],.bool true]:=by rw [hf];rfl
  clear hf ht;go_enter Tryz.func26,Tryz.ntmps26
  go_wp2_with (first
   |(go_at_call 50;refine (ag3 VK kx b w hK).mono ?_;rintro e W1 ⟨he,hf1⟩;rw [e1] at he;subst he;have s1':=hf1.cell s1 id;have hlt1:=Nat.lt_of_lt_of_le hlt hf1.size)
   |(go_at_call 51;refine (af9 R VR ky b _ (hR.frame (hf1.alloc _) (fun _ _=>id)) hn).mono ?_;rintro e W2 ⟨he,hf2⟩;rw [e2] at he;subst he;have hb5:=hf2.same (heap_alloc_new _ _) id;have hlt5:=(Array.getElem?_eq_some_iff.1 hb5).1
     have q0:=aa (o:=0) hb5 rfl;have q1:=aa (o:=1) hb5 rfl;have q2:=aa (o:=2) hb5 rfl;have q3:=aa (o:=3) hb5 rfl;have q4:=aa (o:=4) hb5 rfl))
  go_ret;exact ⟨rfl,((hf1.alloc _).step hf2 (fun _=>False.elim)).alloc _⟩
theorem bl3 (R:dq)(VR:ax)(VK:ah)(kx ky sb:Nat)(n:Int)(w:World)(hs:a79 w sb kx ky)(hK:aq w kx VK)(hR:aj w ky R VR)
 (hw:∀i,i<1024->VK.ws i=VR.ws i/\0<=VK.ws i/\VK.ws i<=4294967295) :
 Calls Tryz.prog 30 #[.pointer (some ⟨sb,0,none⟩),.int .i64 n] w fun e w'=>e=.returned (.bool true)/\Fr w w' (fun _=>False):=by
 have s0:w.cell? ⟨sb,0,none⟩=some (.pointer (some ⟨kx,0,none⟩)):=aa (o:=0) hs rfl;have s1:w.cell? ⟨sb,1,none⟩=some (.pointer (some ⟨ky,0,none⟩)):=aa (o:=1) hs rfl;by_cases h0:n<0
 ·have d0:decide (n<0)=true:=by simpa using h0
  have e1:mn VK.ws n=.returned (.tuple #[.int .i64 0,.int .i64 7]):=by unfold mn;rw [if_neg (by omega)]
  go_enter Tryz.func30,Tryz.ntmps30
  go_wp2_with (go_at_call 12;refine (xj VK kx n w hK (fun i hi=>(hw i hi).2)).mono ?_;rintro e W1 ⟨he,rfl⟩;rw [e1] at he;subst he)
  go_ret;exact ⟨rfl,Fr.refl _ _⟩
 ·have d0:decide (n<0)=false:=by simpa using h0
  by_cases h1:1024<=n
  ·have d1:decide (1024<=n)=true:=by simpa using h1
   have e1:mn VK.ws n=.returned (.tuple #[.int .i64 0,.int .i64 7]):=by unfold mn;rw [if_neg (by omega)]
   go_enter Tryz.func30,Tryz.ntmps30
   go_wp2_with (go_at_call 12;refine (xj VK kx n w hK (fun i hi=>(hw i hi).2)).mono ?_;rintro e W1 ⟨he,rfl⟩;rw [e1] at he;subst he)
   go_ret;exact ⟨rfl,Fr.refl _ _⟩
  ·have d1:decide (1024<=n)=false:=by simpa using h1
   obtain ⟨m,rfl⟩:∃m:Nat,n=m:=⟨n.toNat,by omega⟩;have hm:m<1024:=by omega
   have e1:mn VK.ws m=.returned (.tuple #[.int .i64 (VR.ws m),.int .i64 0]):=by unfold mn;rw [if_pos (by omega),<- (hw m hm).1];rfl
   obtain ⟨c,hc,hcc⟩:=hR.blk;have hcell:w.cell? ⟨ky,m+1,none⟩=some (.int .i64 (VR.ws m)):=aa hc (hcc.w m hm);have hcell':w.cell? ⟨ky,1+m,none⟩=some (.int .i64 (VR.ws m)):=by rw [Nat.add_comm];exact hcell
   go_enter Tryz.func30,Tryz.ntmps30
   go_wp2_with (go_at_call 12;refine (xj VK kx m w hK (fun i hi=>(hw i hi).2)).mono ?_;rintro e W1 ⟨he,rfl⟩;rw [e1] at he;subst he)
   go_ret;exact ⟨rfl,Fr.refl _ _⟩
structure co where
 rv:Nat->Value
 rl:Nat->List Value
def b44:Nat->TypeId
 | 0=>49
 | 1=>43
 | 2=>67
 | 3=>39
 | _=>54
def gw (U:co):Array Value:=#[U.rv 0,U.rv 1,U.rv 2,U.rv 3,U.rv 4,U.rv 5]
def co.fp (wb:Nat)(U:co)(k:Nat):Prop:=k=wb\/∃j,j<6/\(U.rv j).ownBlock=some k
def an4:Value->Option Nat
 | .slice _ 0 _=>none
 | v=>v.ownBlock
theorem ae4 {v:Value}{k:Nat}(h:an4 v=some k):v.ownBlock=some k:=by
 unfold an4 at h;split at h
 ·cases h
 ·exact h
theorem ar4 {A:Option Addr}{n cap:Nat}(h:0<n):an4 (.slice A n cap)=(Value.slice A n cap).ownBlock:=by
 cases n with
 | zero=>omega
 | succ n=>rfl
def co.cb (U:co)(k:Nat):Prop:=∃j v,1<=j/\j<6/\v∈U.rl j/\an4 v=some k
structure io (w:World)(wb:Nat)(U:co):Prop where
 blk:w.heap[wb]?=some (.cells (gw U) 30 (0,0))
 row:∀j,j<6->w.ownsRow 0 (b44 j) 1 (U.rv j) (U.rl j).length (U.rl j)
 own:∀j,j<6->(U.rv j).ownBlock≠some wb
 apart:∀i j,i<6->j<6->i≠j->∀k,(U.rv i).ownBlock=some k->(U.rv j).ownBlock≠some k
 cont:∀k,U.cb k->¬U.fp wb k
 clt:∀k,U.cb k->k<w.heap.size
theorem io.lt {w:World}{wb:Nat}{U:co}(h:io w wb U){k:Nat}(hk:U.fp wb k):k<w.heap.size:=by
 rcases hk with rfl | ⟨j,hj,hk⟩
 ·exact (Array.getElem?_eq_some_iff.1 h.blk).1
 ·exact ((h.row j hj).lt k hk).2
theorem io.frame {w w':World}{wb:Nat}{U:co}(h:io w wb U){S:Nat->Prop}(hf:Fr w w' S)(hs:∀k,U.fp wb k->¬S k):io w' wb U:=
 ⟨hf.same h.blk (hs wb (.inl rfl)),fun j hj=>hf.owns (h.row j hj) (fun k hk=>hs k (.inr ⟨j,hj,hk⟩)),h.own,h.apart,h.cont,fun k hk=>Nat.lt_of_lt_of_le (h.clt k hk) hf.size⟩
def co.add (U:co)(j:Nat)(nv v:Value):co:=⟨fun i=>if i=j then nv else U.rv i,fun i=>if i=j then U.rl i++[v] else U.rl i⟩
theorem an1 (U:co)(j:Nat)(hj:j<6)(nv v:Value):(gw U).setIfInBounds j nv=gw (U.add j nv v):=by
 have:j=0\/j=1\/j=2\/j=3\/j=4\/j=5:=by omega
 rcases this with rfl | rfl | rfl | rfl | rfl | rfl<;>rfl
theorem io.add {w Y:World}{wb:Nat}{U:co}(h:io w wb U){j:Nat}(hj:j<6){o:Obj}{g cap:Nat}{v:Value}(hg:(w.alloc o).grownBy Y (U.rv j).ownBlock)
 (hown:Y.ownsRow 0 (b44 j) 1 (.slice (some ⟨g,0,none⟩) ((U.rl j).length+1) cap) ((U.rl j).length+1) (U.rl j++[v])) (hat:(U.rv j).ownBlock=some g\/g=w.heap.size+1)
 (hv:1<=j->∀k,v.ownBlock=some k->¬U.fp wb k/\k<w.heap.size) :
 Y.cell? ⟨wb,j,none⟩=some (U.rv j)/\Y.frozen? ⟨wb,j,none⟩=false/\
 io (Y.setCell ⟨wb,j,none⟩ (.slice (some ⟨g,0,none⟩) ((U.rl j).length+1) cap)) wb (U.add j (.slice (some ⟨g,0,none⟩) ((U.rl j).length+1) cap) v)/\
 Fr w (Y.setCell ⟨wb,j,none⟩ (.slice (some ⟨g,0,none⟩) ((U.rl j).length+1) cap)) (U.fp wb)/\
 (∀k,(U.add j (.slice (some ⟨g,0,none⟩) ((U.rl j).length+1) cap) v).fp wb k->U.fp wb k\/w.heap.size<=k)/\
 (∀k,(U.add j (.slice (some ⟨g,0,none⟩) ((U.rl j).length+1) cap) v).cb k->U.cb k\/(1<=j/\v.ownBlock=some k)):=by
 have hf7:Fr w Y (fun r=>(U.rv j).ownBlock=some r):=((Fr.refl w (fun r=>(U.rv j).ownBlock=some r)).alloc _).grown hg (fun r hr=>.inl hr)
 have hwb:=(Array.getElem?_eq_some_iff.1 h.blk).1;have hgw:g≠wb:=by
  rcases hat with e | e
  ·exact fun e2=>h.own j hj (e2▸e)
  ·omega
 have hY:Y.heap[wb]?=some (.cells (gw U) 30 (0,0)):=hf7.same h.blk (h.own j hj);have hfS:Fr Y (Y.setCell ⟨wb,j,none⟩ (.slice (some ⟨g,0,none⟩) ((U.rl j).length+1) cap)) (fun k=>k=wb):=Fr.setCell (S:=fun k=>k=wb) (Fr.refl _ _) (.inl rfl) _ _;have hfp:∀k,(U.add j (.slice (some ⟨g,0,none⟩) ((U.rl j).length+1) cap) v).fp wb k->U.fp wb k\/(k=g/\w.heap.size<=k):=by
  rintro k (rfl | ⟨i,hi,hk⟩)
  ·exact .inl (.inl rfl)
  ·simp only [co.add] at hk;by_cases e:i=j
   ·rw [if_pos e] at hk;cases hk
    rcases hat with e2 | e2
    ·exact .inl (.inr ⟨j,hj,e2⟩)
    ·refine .inr ⟨rfl,?_⟩;show w.heap.size<=g;omega
   ·rw [if_neg e] at hk;exact .inl (.inr ⟨i,hi,hk⟩)
 have hcb:∀k,(U.add j (.slice (some ⟨g,0,none⟩) ((U.rl j).length+1) cap) v).cb k->U.cb k\/(1<=j/\v.ownBlock=some k):=by
  rintro k ⟨i,u,h1,h2,h3,h4⟩;simp only [co.add] at h3;by_cases e:i=j
  ·subst e;simp only [if_true,List.mem_append,List.mem_singleton] at h3;rcases h3 with h3 | h3
   ·exact .inl ⟨i,u,h1,h2,h3,h4⟩
   ·subst h3;exact .inr ⟨h1,ae4 h4⟩
  ·rw [if_neg e] at h3;exact .inl ⟨i,u,h1,h2,h3,h4⟩
 have hclt:∀k,(U.add j (.slice (some ⟨g,0,none⟩) ((U.rl j).length+1) cap) v).cb k->k<w.heap.size:=by
  intro k hk;rcases hcb k hk with h1 | ⟨h1,h2⟩
  ·exact h.clt k h1
  ·exact (hv h1 k h2).2
 have hsz:w.heap.size<=Y.heap.size:=hf7.size;refine ⟨aa hY ?_,ab hY,⟨?_,?_,?_,?_,?_,?_⟩,?_,fun k hk=>(hfp k hk).imp id (fun h=>h.2),hcb⟩
 ·have:j=0\/j=1\/j=2\/j=3\/j=4\/j=5:=by omega
  rcases this with rfl | rfl | rfl | rfl | rfl | rfl<;>rfl
 ·rw [ak Y wb j _ hY,an1 U j hj _ v]
 ·intro i hi;by_cases e:i=j
  ·subst e;simp only [co.add,if_true,List.length_append,List.length_singleton];exact hfS.owns hown (fun k hk e=>by cases hk;exact hgw e)
  ·simp only [co.add,if_neg e];exact hfS.owns (hf7.owns (h.row i hi) (fun k hk e2=>h.apart i j hi hj e k hk e2)) (fun k hk e2=>h.own i hi (e2▸hk))
 ·intro i hi;by_cases e:i=j
  ·subst e;simp only [co.add,if_true];intro e2;cases e2;exact hgw rfl
  ·simp only [co.add,if_neg e];exact h.own i hi
 ·intro a b ha hb hab k hk;by_cases e:a=j
  ·subst e;simp only [co.add,if_true] at hk;simp only [co.add,if_neg (Ne.symm hab)];cases hk
   rcases hat with e2 | e2
   ·exact h.apart a b ha hb hab g e2
   ·intro e3;have:=((h.row b hb).lt g e3).2;omega
  ·simp only [co.add,if_neg e] at hk;by_cases e':b=j
   ·subst e';simp only [co.add,if_true];intro e3;cases e3
    rcases hat with e2 | e2
    ·exact h.apart a b ha hb hab g hk e2
    ·have:=((h.row a ha).lt g hk).2;omega
   ·simp only [co.add,if_neg e'];exact h.apart a b ha hb hab k hk
 ·intro k hk hk2;have hlt:=hclt k hk;rcases hfp k hk2 with h2 | ⟨_,h2⟩
  ·rcases hcb k hk with h1 | ⟨h1,h3⟩
   ·exact h.cont k h1 h2
   ·exact (hv h1 k h3).1 h2
  ·omega
 ·intro k hk;rw [bu];have:=hclt k hk;omega
 ·exact (hf7.mono (fun k hk=>.inr ⟨j,hj,hk⟩)).setCell (.inl (.inl rfl)) _ _
def jb (w:World)(c:List Value)(v:Value):Prop:=
 ∃A n cap,v=.slice A n cap/\n<=20000000000000/\(0<n->∃g,A=some ⟨g,0,none⟩/\∀k j u,k<n->c[j]?=some u->w.cell? ⟨g,k*c.length+j,none⟩=some u)
def se (w:World)(v:Value)(l:List Bool):Prop:=
 ∃A cap,v=.slice A l.length cap/\(0<l.length->∃g,A=some ⟨g,0,none⟩/\∀i (hi:i<l.length),w.cell? ⟨g,i,none⟩=some (.bool l[i]))
def oj (n:Int):List Value:=[.int .i64 n,.int .i64 0,.int .i64 0,.int .i64 0,.int .i64 0,.int .i64 0,.int .i64 0,.int .i64 0,.int .i64 0,.int .i64 0]
def lp (n:Int):List Value:=[.int .i64 n,.int .i64 0]
structure np (w:World)(U:co):Prop where
 e:∀(i:Nat) v,(U.rl 1)[i]?=some v->jb w (oj (-1-((i / 4*4:Nat):Int))) v
 d:∀(i:Nat) v,(U.rl 2)[i]?=some v->jb w (lp (-1-((i / 4*4:Nat):Int))) v
 i:∀(i:Nat) v,(U.rl 3)[i]?=some v->jb w [.int .i64 (-7)] v
 bx:(U.rl 4).length=(U.rl 5).length
 b:∀(i:Nat) v x,(U.rl 4)[i]?=some v->(U.rl 5)[i]?=some x->∃l:List Bool,l.length<=150000000000000/\se w v l/\se w x l
theorem jb.frame {w w':World}{c:List Value}{v:Value}{S:Nat->Prop}(h:jb w c v)(hf:Fr w w' S)(hs:∀k,an4 v=some k->¬S k):jb w' c v:=by
 obtain ⟨A,n,cap,rfl,hn,hA⟩:=h;refine ⟨A,n,cap,rfl,hn,fun h0=>?_⟩
 obtain ⟨g,rfl,hc⟩:=hA h0;exact ⟨g,rfl,fun k j u hk hj=>hf.cell (hc k j u hk hj) (hs g (ar4 h0))⟩
theorem se.frame {w w':World}{l:List Bool}{v:Value}{S:Nat->Prop}(h:se w v l)(hf:Fr w w' S)(hs:∀k,an4 v=some k->¬S k):se w' v l:=by
 obtain ⟨A,cap,rfl,hA⟩:=h;refine ⟨A,cap,rfl,fun h0=>?_⟩
 obtain ⟨g,rfl,hc⟩:=hA h0;exact ⟨g,rfl,fun i hi=>hf.cell (hc i hi) (hs g (ar4 h0))⟩
theorem l5 {α:Type}{l:List α}{i:Nat}{a:α}(h:l[i]?=some a):a∈l:=by
 obtain ⟨hi,rfl⟩:=List.getElem?_eq_some_iff.1 h;exact List.getElem_mem hi
theorem np.frame {w w':World}{U:co}{S:Nat->Prop}(h:np w U)(hf:Fr w w' S)(hs:∀k,U.cb k->¬S k):np w' U:=by
 refine ⟨fun i v hv=>(h.e i v hv).frame hf (fun k hk=>hs k ⟨1,v,by omega,by omega,l5 hv,hk⟩),fun i v hv=>(h.d i v hv).frame hf (fun k hk=>hs k ⟨2,v,by omega,by omega,l5 hv,hk⟩),
  fun i v hv=>(h.i i v hv).frame hf (fun k hk=>hs k ⟨3,v,by omega,by omega,l5 hv,hk⟩),h.bx,?_⟩
 intro i v x hv hx;obtain ⟨l,h0,h1,h2⟩:=h.b i v x hv hx;exact ⟨l,h0,h1.frame hf (fun k hk=>hs k ⟨4,v,by omega,by omega,l5 hv,hk⟩),h2.frame hf (fun k hk=>hs k ⟨5,x,by omega,by omega,l5 hx,hk⟩)⟩
structure bz5 (w:World)(wb:Nat)(U U':co)(X:Nat->Prop)(w':World):Prop where
 at_:io w' wb U'
 fr:Fr w w' (fun k=>U.fp wb k\/X k)
 fp:∀k,U'.fp wb k->U.fp wb k\/w.heap.size<=k
 cb:∀k,U'.cb k->U.cb k\/X k\/w.heap.size<=k
theorem br9:(Tryz.prog.info? 39).map (fun i=>(i.zero,i.size,i.bytes))=some (some (.slice none 0 0),1,24):=by kernel_rfl
theorem ao0 (l:List Int)(x:Int)(k:Nat)(hk:k<l.length):(mw (l++[x])).toArray[k]?=some (.int .i64 l[k]):=by
 rw [List.getElem?_toArray];unfold mw;rw [List.getElem?_map,List.getElem?_append_left hk,List.getElem?_eq_getElem hk];rfl
theorem bm8 (l:List Int)(x:Int):(mw (l++[x])).toArray[l.length]?=some (.int .i64 x):=by
 rw [List.getElem?_toArray];unfold mw;rw [List.getElem?_map];simp
theorem bk6 (l:List Int):(mw l).toArray.size=l.length:=by simp [mw]
structure ad2 (w:World)(gb n k:Nat):Prop where
 blk:∃c,w.heap[gb]?=some (.cells c 3 (0,0))/\c.size=n/\∀j,j<k->c[j]?=some (.int .i64 (-7))
theorem ad2.at {w:World}{gb n k:Nat}(h:ad2 w gb n k){j:Nat}(hj:j<n):(∃v,w.cell? ⟨gb,j,none⟩=some v)/\w.frozen? ⟨gb,j,none⟩=false:=by
 obtain ⟨c,h1,h2,_⟩:=h.blk;exact ⟨⟨_,aa h1 (Array.getElem?_eq_getElem (by omega))⟩,ab h1⟩
theorem ad2.step {w:World}{gb n k:Nat}(h:ad2 w gb n k)(hk:k<n):ad2 (w.setCell ⟨gb,k,none⟩ (.int .i64 (-7))) gb n (k+1):=by
 obtain ⟨c,h1,h2,h3⟩:=h.blk;refine ⟨_,ak w gb k _ h1,by simpa using h2,fun j hj=>?_⟩
 by_cases e:j=k
 ·subst e;rw [Array.getElem?_setIfInBounds_self];simp [h2,hk]
 ·rw [Array.getElem?_setIfInBounds_ne (Ne.symm e)];exact h3 j (by omega)
theorem ad2.filled {w:World}{gb n:Nat}(h:ad2 w gb n n)(hn:n<=20000000000000):jb w [.int .i64 (-7)] (.slice (some ⟨gb,0,none⟩) n n):=by
 obtain ⟨c,h1,h2,h3⟩:=h.blk;refine ⟨_,_,_,rfl,hn,fun _=>⟨gb,rfl,fun k j u hk hj=>?_⟩⟩
 have hj0:j=0:=by
  have:=(List.getElem?_eq_some_iff.1 hj).1;simp at this;omega
 subst hj0;simp at hj;subst hj;simp;exact aa h1 (h3 k hk)
theorem ac3 (wb gb:Nat)(U:co)(l:List Int)(lv:Value)(w:World)(hL:io w wb U)(hg:w.heap[gb]?=some (.cells (mw (l++[78])).toArray 3 (0,0)))(hgf:¬U.fp wb gb)
 (hl:ay w lv l) (hlen:l.length<=17592186044416) (hI:(U.rl 3).length<=5000000000000) :
 Calls Tryz.prog 49 #[.pointer (some ⟨wb,0,none⟩),.slice (some ⟨gb,0,none⟩) (l.length+1) (l.length+1),lv] w fun e w'=>e=.returned (.bool true)/\
  ∃nv,bz5 w wb U (U.add 3 nv (.slice (some ⟨gb,0,none⟩) (l.length+1) (l.length+1))) (fun k=>k=gb) w'/\jb w' [.int .i64 (-7)] (.slice (some ⟨gb,0,none⟩) (l.length+1) (l.length+1)):=by
 obtain ⟨i0,hi0,hz0,hz1,hz2⟩:=info_parts br9;obtain ⟨A,cap,rfl,hA⟩:=hl;have h78:w.cell? ⟨gb,l.length,none⟩=some (.int .i64 78):=aa hg (bm8 l 78);have hgb:∀k (hk:k<l.length),w.cell? ⟨gb,k,none⟩=some (.int .i64 l[k]):=fun k hk=>aa hg (ao0 l 78 k hk)
 have hglt:=(Array.getElem?_eq_some_iff.1 hg).1;have hlt1:l.length<l.length+1:=by omega
 go_enter Tryz.func49,Tryz.ntmps49
 go_wp2;go_loopw [8,9] (fun ok i w'=>(∃q,w'=w.drewN q)/\ok=.bool true/\∃k:Nat,k<=l.length/\i=.int .i64 k) (fun _ i _=>l.length-(intOf i).toNat)
 case atStart=>exact ⟨⟨0,rfl⟩,rfl,0,Nat.zero_le _,rfl⟩
 case round=>
  obtain ⟨⟨q,rfl⟩,rfl,k,hk,rfl⟩:=hrel;by_cases hlt:k<l.length
  ·obtain ⟨g,o,rfl,hc⟩:=hA (by omega);have c1:=hgb k hlt;have c2:=hc k hlt;clear hA hc hgb hg h78;go_wp2;go_quiet (fail)
   go_wp2;go_roundw;case rel=>exact ⟨⟨_,rfl⟩,rfl,k+1,by omega,by go_num⟩
   case measure=>simp [intOf];omega
  ·have hs0:ad2 (w.drewN q) gb (l.length+1) 0:=⟨_,hg,by rw [bk6];simp,fun j hj=>absurd hj (by omega)⟩
   have hF0:Fr w (w.drewN q) (fun k=>k=gb):=(Fr.refl _ _).drewN q;generalize w.drewN q=W1 at *
   clear hg h78 hgb hA;go_wp2;go_loopw [10] (fun i w'=>Fr w w' (fun k=>k=gb)/\∃k:Nat,k<=l.length+1/\i=.int .i64 k/\ad2 w' gb (l.length+1) k) (fun i _=>l.length+1-(intOf i).toNat)
   case atStart=>exact ⟨hF0,0,Nat.zero_le _,rfl,hs0⟩
   case round=>
    obtain ⟨hF,m,hm,rfl,hsv⟩:=hrel;clear hs0 hF0;by_cases hlt2:m<l.length+1
    ·obtain ⟨⟨v0,hv0⟩,hz⟩:=hsv.at hlt2;go_wp2;go_roundw;case rel=>exact ⟨Fr.setCell hF (.inl rfl) _ _,m+1,by omega,by go_num,hsv.step hlt2⟩
     case measure=>simp [intOf];omega
    ·obtain rfl:m=l.length+1:=by omega
     have hL1:=hL.frame hF (fun k hk e=>hgf (e▸hk))
     have c3:wr.cell? ⟨wb,3,none⟩=some (U.rv 3):=aa hL1.blk rfl;have o3:wr.ownsRow 0 39 1 (U.rv 3) (U.rl 3).length (U.rl 3):=hL1.row 3 (by omega);have s3:wb<wr.heap.size:=World.block_lt_of_cell? _ _ c3;go_wp2_with (at_builtin;go_must (refine wpList_append_lies _ rfl _ _ 27 rfl 0 39 i0 _ 1 24 Tryz.underlying27 hi0 hz0 hz1 hz2 rfl (by decide) _ _ _ rfl (World.ownsRow.alloc o3 _) ⟨_,0,none⟩ 1 1 [.slice (some ⟨gb,0,none⟩) (l.length+1) (l.length+1)] rfl rfl (dg _ _ _) (by simp [Value.oneCell']) (by decide) (by unfold maxLen;omega) (by omega) (Nat.zero_le _) (wr.heap.size+1) (by simp) ?_))
     intro g5 cap5 Y5 hown5 hg5 hat5 hlt5;obtain ⟨d5,z5,hL5,hf5,hfp5,hcb5⟩:=hL1.add (j:=3) (by omega) hg5 hown5 hat5 (fun _ k hk=>by cases hk;exact ⟨hgf,Nat.lt_of_lt_of_le hglt hF.size⟩);have hF5:Fr wr Y5 (fun r=>(U.rv 3).ownBlock=some r):=((Fr.refl wr (fun r=>(U.rv 3).ownBlock=some r)).alloc _).grown hg5 (fun r hr=>.inl hr)
     clear hown5 hg5 hat5 hlt5 c3 o3;go_wp2;go_ret;refine ⟨rfl,_,⟨hL5,?_,?_,?_⟩,?_⟩
     ·exact (hF.mono (fun k hk=>.inr hk)).step hf5 (fun k hk=>.inl (.inl hk))
     ·intro k hk;exact (hfp5 k hk).imp id (fun h=>Nat.le_trans hF.size h)
     ·intro k hk;rcases hcb5 k hk with h1 | ⟨_,h1⟩
      ·exact .inl h1
      ·cases h1;exact .inr (.inl rfl)
     ·exact (hsv.filled (by omega)).frame hf5 (fun k hk e=>by cases hk;exact hgf e)
theorem io.at {w:World}{wb:Nat}{U:co}(h:io w wb U)(j:Nat)(hj:j<6):∃A cap,U.rv j=.slice A (U.rl j).length cap/\w.cell? ⟨wb,j,none⟩=some (.slice A (U.rl j).length cap)/\
 ∀i (hi:i<(U.rl j).length),∃g,A=some ⟨g,0,none⟩/\w.cell? ⟨g,i,none⟩=some ((U.rl j)[i]):=by
 obtain ⟨A,cap,hv⟩:=cz (h.row j hj);have hc:w.cell? ⟨wb,j,none⟩=some (U.rv j):=by
  refine aa h.blk ?_;have:j=0\/j=1\/j=2\/j=3\/j=4\/j=5:=by omega
  rcases this with rfl | rfl | rfl | rfl | rfl | rfl<;>rfl
 refine ⟨A,cap,hv,by rw [hc,hv],fun i hi=>?_⟩
 obtain ⟨g,cap',hv',_⟩:=ep (h.row j hj) (by omega);rw [hv] at hv';cases hv'
 have hrow:=h.row j hj;rw [hv] at hrow;have:=hrow.cells (g:=g) rfl i ((U.rl j)[i]) (by simp [hi]);rw [mp] at this;exact ⟨g,rfl,by simpa using this⟩
theorem uu (wb:Nat)(U:co)(w:World)(hL:io w wb U)(hG:np w U)(hn:∀j,j<6->(U.rl j).length<=5500000000000):
 Calls Tryz.prog 16 #[.pointer (some ⟨wb,0,none⟩)] w fun e w'=>e=.returned (.bool true)/\∃q,w'=w.drewN q:=by
 obtain ⟨A1,cap1,_,c1,r1⟩:=hL.at 1 (by omega);obtain ⟨A2,cap2,_,c2,r2⟩:=hL.at 2 (by omega);obtain ⟨A3,cap3,_,c3,r3⟩:=hL.at 3 (by omega);obtain ⟨A4,cap4,_,c4,r4⟩:=hL.at 4 (by omega);obtain ⟨A5,cap5,_,c5,r5⟩:=hL.at 5 (by omega);have n1:=hn 1 (by omega);have n2:=hn 2 (by omega);have n3:=hn 3 (by omega);have n4:=hn 4 (by omega);have n5:=hn 5 (by omega);clear hn hL;go_enter Tryz.func16,Tryz.ntmps16
 go_wp2;go_loopw [3] (fun i w'=>(∃q,w'=w.drewN q)/\∃k:Nat,k<=(U.rl 1).length/\i=.int .i64 k) (fun i _=>(U.rl 1).length-(intOf i).toNat)
 case atStart=>exact ⟨⟨0,rfl⟩,0,Nat.zero_le _,rfl⟩
 case round=>
  obtain ⟨⟨q,rfl⟩,k,hk,rfl⟩:=hrel;by_cases hlt:k<(U.rl 1).length
  ·skip
   obtain ⟨g,rfl,hgk⟩:=r1 k hlt;obtain ⟨Al,nl,capl,hl,hln,hcl⟩:=hG.e k _ (List.getElem?_eq_getElem hlt);rw [hl] at hgk;clear r2 r3 r4 r5;go_wp2;go_loopw [4] (fun i w'=>(∃q,w'=w.drewN q)/\∃m:Nat,m<=nl/\i=.int .i64 m) (fun i _=>nl-(intOf i).toNat)
   case atStart=>exact ⟨⟨q,rfl⟩,0,Nat.zero_le _,rfl⟩
   case round=>
    obtain ⟨⟨q2,rfl⟩,m,hm,rfl⟩:=hrel;by_cases hlt2:m<nl
    ·skip
     obtain ⟨gl,rfl,hcc⟩:=hcl (by omega);have e0:=hcc m 0 _ hlt2 rfl;have e1:=hcc m 1 _ hlt2 rfl;have e2:=hcc m 2 _ hlt2 rfl;have e3:=hcc m 3 _ hlt2 rfl;have e4:=hcc m 4 _ hlt2 rfl;have e5:=hcc m 5 _ hlt2 rfl;have e6:=hcc m 6 _ hlt2 rfl;have e7:=hcc m 7 _ hlt2 rfl;have e8:=hcc m 8 _ hlt2 rfl;have e9:=hcc m 9 _ hlt2 rfl;rw [show (oj (-1-((k / 4*4:Nat):Int))).length=10 from rfl] at e0 e1 e2 e3 e4 e5 e6 e7 e8 e9;rw [Nat.add_zero] at e0;clear hcc hcl;go_wp2;go_roundw;case rel=>exact ⟨⟨_,rfl⟩,m+1,by omega,by go_num⟩
     case measure=>simp [intOf];omega
    ·skip
     go_wp2;go_roundw;case rel=>exact ⟨⟨_,rfl⟩,k+1,by omega,by go_num⟩
     case measure=>simp [intOf];omega
  ·skip
   go_wp2;go_loopw [5] (fun i w'=>(∃q,w'=w.drewN q)/\∃k:Nat,k<=(U.rl 2).length/\i=.int .i64 k) (fun i _=>(U.rl 2).length-(intOf i).toNat)
   case atStart=>exact ⟨⟨_,rfl⟩,0,Nat.zero_le _,rfl⟩
   case round=>
    obtain ⟨⟨q,rfl⟩,k,hk,rfl⟩:=hrel;by_cases hlt:k<(U.rl 2).length
    ·skip
     obtain ⟨g,rfl,hgk⟩:=r2 k hlt;obtain ⟨Al,nl,capl,hl,hln,hcl⟩:=hG.d k _ (List.getElem?_eq_getElem hlt);rw [hl] at hgk;clear r3 r4 r5;go_wp2;go_loopw [6] (fun i w'=>(∃q,w'=w.drewN q)/\∃m:Nat,m<=nl/\i=.int .i64 m) (fun i _=>nl-(intOf i).toNat)
     case atStart=>exact ⟨⟨q,rfl⟩,0,Nat.zero_le _,rfl⟩
     case round=>
      obtain ⟨⟨q2,rfl⟩,m,hm,rfl⟩:=hrel;by_cases hlt2:m<nl
      ·skip
       obtain ⟨gl,rfl,hcc⟩:=hcl (by omega);have e0:=hcc m 0 _ hlt2 rfl;have e1:=hcc m 1 _ hlt2 rfl;rw [show (lp (-1-((k / 4*4:Nat):Int))).length=2 from rfl] at e0 e1;rw [Nat.add_zero] at e0;clear hcc hcl;go_wp2;go_roundw;case rel=>exact ⟨⟨_,rfl⟩,m+1,by omega,by go_num⟩
       case measure=>simp [intOf];omega
      ·skip
       go_wp2;go_roundw;case rel=>exact ⟨⟨_,rfl⟩,k+1,by omega,by go_num⟩
       case measure=>simp [intOf];omega
    ·skip
     go_wp2;go_loopw [7] (fun i w'=>(∃q,w'=w.drewN q)/\∃k:Nat,k<=(U.rl 3).length/\i=.int .i64 k) (fun i _=>(U.rl 3).length-(intOf i).toNat)
     case atStart=>exact ⟨⟨_,rfl⟩,0,Nat.zero_le _,rfl⟩
     case round=>
      obtain ⟨⟨q,rfl⟩,k,hk,rfl⟩:=hrel;by_cases hlt:k<(U.rl 3).length
      ·skip
       obtain ⟨g,rfl,hgk⟩:=r3 k hlt;obtain ⟨Al,nl,capl,hl,hln,hcl⟩:=hG.i k _ (List.getElem?_eq_getElem hlt);rw [hl] at hgk;clear r4 r5;go_wp2;go_loopw [8] (fun i w'=>(∃q,w'=w.drewN q)/\∃m:Nat,m<=nl/\i=.int .i64 m) (fun i _=>nl-(intOf i).toNat)
       case atStart=>exact ⟨⟨q,rfl⟩,0,Nat.zero_le _,rfl⟩
       case round=>
        obtain ⟨⟨q2,rfl⟩,m,hm,rfl⟩:=hrel;by_cases hlt2:m<nl
        ·skip
         obtain ⟨gl,rfl,hcc⟩:=hcl (by omega);have e0:=hcc m 0 _ hlt2 rfl;rw [show ([Value.int .i64 (-7)]).length=1 from rfl] at e0;rw [Nat.add_zero] at e0;rw [Nat.mul_one] at e0;clear hcc hcl;go_wp2;go_roundw;case rel=>exact ⟨⟨_,rfl⟩,m+1,by omega,by go_num⟩
         case measure=>simp [intOf];omega
        ·skip
         go_wp2;go_roundw;case rel=>exact ⟨⟨_,rfl⟩,k+1,by omega,by go_num⟩
         case measure=>simp [intOf];omega
      ·skip
       go_wp2;go_loopw [9] (fun i w'=>(∃q,w'=w.drewN q)/\∃k:Nat,k<=(U.rl 4).length/\i=.int .i64 k) (fun i _=>(U.rl 4).length-(intOf i).toNat)
       case atStart=>exact ⟨⟨_,rfl⟩,0,Nat.zero_le _,rfl⟩
       case round=>
        obtain ⟨⟨q,rfl⟩,k,hk,rfl⟩:=hrel;by_cases hlt:k<(U.rl 4).length
        ·skip
         obtain ⟨g,rfl,hgk⟩:=r4 k hlt;have hlt5:k<(U.rl 5).length:=by rw [<- hG.bx];exact hlt
         obtain ⟨g5,rfl,hgk5⟩:=r5 k hlt5;obtain ⟨lb,hlb,⟨Al,capl,hl,hcl⟩,⟨Am,capm,hl5,hcl5⟩⟩:=hG.b k _ _ (List.getElem?_eq_getElem hlt) (List.getElem?_eq_getElem hlt5);rw [hl] at hgk;rw [hl5] at hgk5;obtain ⟨nl,hnl⟩:∃nl,nl=lb.length:=⟨_,rfl⟩;rw [<- hnl] at hgk hgk5 hlb;go_wp2;go_loopw [10] (fun i w'=>(∃q,w'=w.drewN q)/\∃m:Nat,m<=nl/\i=.int .i64 m) (fun i _=>nl-(intOf i).toNat)
         case atStart=>exact ⟨⟨q,rfl⟩,0,Nat.zero_le _,rfl⟩
         case round=>
          obtain ⟨⟨q2,rfl⟩,m,hm,rfl⟩:=hrel;by_cases hlt2:m<nl
          ·skip
           have hm4:m<lb.length:=by omega
           obtain ⟨gl,rfl,hcc⟩:=hcl (by omega);obtain ⟨gm,rfl,hcc5⟩:=hcl5 (by omega);have e0:=hcc m hm4;have e5:=hcc5 m hm4;generalize lb[m]=bv at e0 e5;clear hcc hcc5 hcl hcl5;go_wp2;go_quiet (fail)
           cases bv
           all_goals go_wp2
           ·go_roundw;case rel=>exact ⟨⟨_,rfl⟩,m+1,by omega,by go_num⟩
            case measure=>simp [intOf];omega
           ·go_roundw;case rel=>exact ⟨⟨_,rfl⟩,m+1,by omega,by go_num⟩
            case measure=>simp [intOf];omega
          ·skip
           go_wp2;go_roundw;case rel=>exact ⟨⟨_,rfl⟩,k+1,by omega,by go_num⟩
           case measure=>simp [intOf];omega
        ·skip
         go_wp2;go_ret;exact ⟨rfl,_,rfl⟩
end Go.Proofs.YtdpjgflemddekaaGreatDoor
