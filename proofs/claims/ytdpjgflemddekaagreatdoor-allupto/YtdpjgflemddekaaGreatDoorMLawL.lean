/- The statements' own function play, with bits, of two pairs of kernels. -/
import Derived.Test.YtdpjgflemddekaaGreatDoorMTRo
import Derived.ProofKit
import Derived.OpenShut
import Derived.Deep.Slices
import Derived.Deep.DeepHandedRow
import Derived.Lib.LaidTab
set_option maxRecDepth 100000
set_option maxHeartbeats 8000000
namespace Go.Proofs.YtdpjgflemddekaaGreatDoor
open Go.RowKit
structure OpD where
 ask:Int
 th:Int
 c:Cl
 av:Value
 tv:Value
 bv:Value
 n:Int
 which:Bool
 bl:List Bool
def OpD.vals (o:OpD):List Value:=[.int .i64 o.ask,.int .i64 o.th,.int .i64 o.c.kind,o.av,o.tv,.int .i64 o.c.ty,.int .i64 o.c.bits,.int .i64 o.c.count,.int .i64 o.c.rights,.int .i64 o.c.badge,.int .i64 o.c.value,.int .i64 o.c.offset,o.bv,.int .i64 o.n,.bool o.which]
structure b39 (w:World)(o:OpD):Prop where
 at_:ay w o.av o.c.at_
 ti:ay w o.tv o.c.to
 al:o.c.at_.length<=1048576
 tl:o.c.to.length<=1048576
 la:0<o.c.at_.length->∀k,o.av.ownBlock=some k->k<w.heap.size
 lt:0<o.c.to.length->∀k,o.tv.ownBlock=some k->k<w.heap.size
 th0:-9223372036854775808<=o.th
 th1:o.th<=9223372036854775807
 n0:-9223372036854775808<=o.n
 n1:o.n<=9223372036854775807
 bs:eo w o.bv o.bl
 bll:o.bl.length<=1048576
 lb:0<o.bl.length->∀k,o.bv.ownBlock=some k->k<w.heap.size
structure an7 (w:World)(sv:Value)(l:List OpD):Prop where
 val:∃A cap,sv=.slice A l.length cap/\(0<l.length->∃g o,A=some ⟨g,o,none⟩/\∀i (hi:i<l.length) j x,(l[i].vals)[j]?=some x->w.cell? ⟨g,o+i*15+j,none⟩=some x)
 ops:∀o∈l,b39 w o
 len:l.length<=1048576
structure qi (w0:World)(wb:Nat)(U:dg)(D E:d_)(L:Nat)(k:Nat)(w:World)(U':dg)(D' E':d_):Prop where
 at0:fj w wb U' D'
 at1:fj w wb U' E'
 dis:∀b,D'.fp b->¬E'.fp b
 base:Fr w0 w (fun _=>False)
 lo:∀b,U'.fp wb b\/U'.cb b\/D'.fp b\/E'.fp b->w0.heap.size<=b
 sb0:D'.sb=D.sb
 sb1:E'.sb=E.sb
 r0:U'.rl 0=U.rl 0
 len:∀j,j<6->(U'.rl j).length<=100+4*k
 k:k<=L
theorem qi.next0 {w0:World}{wb:Nat}{U:dg}{D E:d_}{L k:Nat}{w:World}{U':dg}{D' E':d_}(h:qi w0 wb U D E L k w U' D' E'){w2:World}{U2:dg}{D2:d_}(hO:ie w wb U' D' U2 D2 w2)(hk:k<L)(q:Nat):qi w0 wb U D E L (k+1) (w2.drewN q) U2 D2 E':=by
 have hs:=h.base.size;obtain ⟨g1,g2⟩:=h.at1.other (fun b hb e=>h.dis b e hb) hO;refine ⟨hO.at_.frame ((Fr.refl _ _).drewN q),g1.frame ((Fr.refl _ _).drewN q),fun b hb e=>g2 b e hb,(h.base.step hO.fr (fun b hb=>?_)).drewN q,?_,hO.sb.trans h.sb0,h.sb1,hO.r0.trans h.r0,fun j hj=>?_,hk⟩
 ·rcases hb with e | e
  ·exact .inr (h.lo b (.inl e))
  ·exact .inr (h.lo b (.inr (.inr (.inl e))))
 ·rintro b (e | e | e | e)
  ·rcases hO.fpU b e with e | e
   ·exact h.lo b (.inl e)
   ·omega
  ·rcases hO.cbU b e with e | e
   ·exact h.lo b (.inr (.inl e))
   ·omega
  ·rcases hO.fpD b e with e | e
   ·exact h.lo b (.inr (.inr (.inl e)))
   ·omega
  ·exact h.lo b (.inr (.inr (.inr e)))
 ·have:=h.len j hj;have:=hO.len j hj;omega
theorem qi.turn {w0:World}{wb:Nat}{U:dg}{D E:d_}{L k:Nat}{w:World}{U':dg}{D' E':d_}(h:qi w0 wb U D E L k w U' D' E'):qi w0 wb U E D L k w U' E' D':=
 ⟨h.at1,h.at0,fun b hb e=>h.dis b e hb,h.base,fun b hb=>h.lo b (hb.imp id (fun e=>e.imp id Or.symm)),h.sb1,h.sb0,h.r0,h.len,h.k⟩
theorem bv_ (w0:World)(wb:Nat)(U:dg)(D E:d_)(sv:Value)(l:List OpD)(w:World)(hI0:qi w0 wb U D E l.length 0 w U D E)(hgl:iy w0)(hS:an7 w0 sv l)(hr0:U.rl 0=[.pointer (some ⟨D.sb,0,none⟩),.pointer (some ⟨E.sb,0,none⟩)]):
 Calls Tryz.prog 9 #[.pointer (some ⟨wb,0,none⟩),sv,.int .i64 11,.bool true] w fun e w'=>e=.returned (.bool true)/\Fr w0 w' (fun _=>False):=by
 obtain ⟨⟨A,cap,rfl,hA⟩,hops,hll⟩:=hS;have hrow:∀W U',iw W wb U'->U'.rl 0=[.pointer (some ⟨D.sb,0,none⟩),.pointer (some ⟨E.sb,0,none⟩)]->∃g cp,W.cell? ⟨wb,0,none⟩=some (.slice (some ⟨g,0,none⟩) 2 cp)/\W.cell? ⟨g,0,none⟩=some (.pointer (some ⟨D.sb,0,none⟩))/\W.cell? ⟨g,1,none⟩=some (.pointer (some ⟨E.sb,0,none⟩))/\g<W.heap.size:=by
  intro W U' hL hr;obtain ⟨A0,cap0,_,c0,hc⟩:=hL.at 0 (by omega);have hl0:(U'.rl 0).length=2:=by rw [hr];rfl
  obtain ⟨g,rfl,hg⟩:=hc 0 (by omega);obtain ⟨g',e',hg'⟩:=hc 1 (by omega);cases e'
  rw [hl0] at c0;have he:(U'.rl 0)[0]'(by omega)=.pointer (some ⟨D.sb,0,none⟩):=by simp [hr]
  have he':(U'.rl 0)[1]'(by omega)=.pointer (some ⟨E.sb,0,none⟩):=by simp [hr]
  rw [he] at hg;rw [he'] at hg';exact ⟨g,cap0,c0,hg,hg',World.block_lt_of_cell? _ _ hg⟩
 obtain ⟨g0,cp0,y0,y1,y1',y2⟩:=hrow w U hI0.at0.law hr0;go_enter Tryz.func9,Tryz.ntmps9
 go_wp2;clear y0 y1 y1' y2;go_loopw [10] (fun i w'=>∃(k:Nat) (U':dg) (D' E':d_),k<=l.length/\i=.int .i64 k/\qi w0 wb U D E l.length k w' U' D' E') (fun i _=>l.length-(intOf i).toNat)
 case atStart=>exact ⟨0,U,D,E,Nat.zero_le _,rfl,hI0⟩
 case round=>
  obtain ⟨k,U',D',E',hk,rfl,hI⟩:=hrel;clear hI0;have hG:=hI.at0;have hlo:=hI.lo;have hbs:=hI.base.size;have hn:=hI.len;have hgl':=iy.fr hgl hI.base;obtain ⟨g1,cp1,y0,y1,y1',y2⟩:=hrow wr U' hG.law (hI.r0.trans hr0);have yw:wb<wr.heap.size:=World.block_lt_of_cell? _ _ y0;by_cases hklt:k<l.length
  ·obtain ⟨g,o,rfl,hc⟩:=hA (by omega);have hop:=hops _ (List.getElem_mem hklt);have hcs:=fun j x hx=>hI.base.cell (hc k hklt j x hx) id
   generalize l[k]=od at hop hcs;obtain ⟨ask,th,c,av,tv,bv,n,which,bl⟩:=od;obtain ⟨hav,htv,hal,htl,hda,hdt,hth0,hth1,hn0,hn1,hbv,hbll,hdb⟩:=hop;dsimp only at hav htv hal htl hda hdt hth0 hth1 hn0 hn1 hbv hbll hdb;have hbv':=hbv.frame hI.base (fun _ _ _=>id);obtain ⟨Ab,capb,rfl,_,_⟩:=hbv;obtain ⟨Dw,HDw⟩:∃Dw,Hid ((if which=true then E' else D')=Dw):=⟨_,rfl⟩;have hGw:fj wr wb U' Dw:=by rw [<- HDw.out];cases which;exact hI.at0;exact hI.at1
   have hlw:∀b,Dw.fp b->w0.heap.size<=b:=by rw [<- HDw.out];cases which;exact fun b hb=>hI.lo b (.inr (.inr (.inl hb)));exact fun b hb=>hI.lo b (.inr (.inr (.inr hb)))
   have hav':=hav.fr hI.base (fun _ _=>id);have htv':=htv.fr hI.base (fun _ _=>id);obtain ⟨A3,cap3,rfl,hA3⟩:=hav;obtain ⟨B3,cab3,rfl,hB3⟩:=htv;have x0:wr.cell? ⟨g,o+k*15,none⟩=some (.int .i64 ask):=hcs 0 _ rfl;have x1:wr.cell? ⟨g,o+k*15+1,none⟩=some (.int .i64 th):=hcs 1 _ rfl;have x2:wr.cell? ⟨g,o+k*15+2,none⟩=some (.int .i64 c.kind):=hcs 2 _ rfl;have x3:wr.cell? ⟨g,o+k*15+3,none⟩=some (.slice A3 c.at_.length cap3):=hcs 3 _ rfl;have x4:wr.cell? ⟨g,o+k*15+4,none⟩=some (.slice B3 c.to.length cab3):=hcs 4 _ rfl;have x5:wr.cell? ⟨g,o+k*15+5,none⟩=some (.int .i64 c.ty):=hcs 5 _ rfl;have x6:wr.cell? ⟨g,o+k*15+6,none⟩=some (.int .i64 c.bits):=hcs 6 _ rfl;have x7:wr.cell? ⟨g,o+k*15+7,none⟩=some (.int .i64 c.count):=hcs 7 _ rfl;have x8:wr.cell? ⟨g,o+k*15+8,none⟩=some (.int .i64 c.rights):=hcs 8 _ rfl;have x9:wr.cell? ⟨g,o+k*15+9,none⟩=some (.int .i64 c.badge):=hcs 9 _ rfl;have x10:wr.cell? ⟨g,o+k*15+10,none⟩=some (.int .i64 c.value):=hcs 10 _ rfl;have x11:wr.cell? ⟨g,o+k*15+11,none⟩=some (.int .i64 c.offset):=hcs 11 _ rfl;have x12:wr.cell? ⟨g,o+k*15+12,none⟩=some (.slice Ab bl.length capb):=hcs 12 _ rfl;have x13:wr.cell? ⟨g,o+k*15+13,none⟩=some (.int .i64 n):=hcs 13 _ rfl;have x14:wr.cell? ⟨g,o+k*15+14,none⟩=some (.bool which):=hcs 14 _ rfl;have xg:g<wr.heap.size:=World.block_lt_of_cell? _ _ x0;rw [<- hI.sb0] at y1;rw [<- hI.sb1] at y1';clear hA hc hcs hrow hops hA3 hB3;go_upto_region 6 with fail
   clear x0 x1 x2 x3 x4 x5 x6 x7 x8 x9 x10 x11 x12 x13 x14;generalize hW1:wr.alloc _=W1;have hf1:Fr wr W1 (fun _=>False):=by rw [<- hW1];exact (Fr.refl _ _).alloc _
   have hb1:W1.heap[wr.heap.size]?=some (.cells #[.int .i64 ask,.int .i64 th,.int .i64 c.kind,.slice A3 c.at_.length cap3,.slice B3 c.to.length cab3,.int .i64 c.ty,.int .i64 c.bits,.int .i64 c.count,.int .i64 c.rights,.int .i64 c.badge,.int .i64 c.value,.int .i64 c.offset,.slice Ab bl.length capb,.int .i64 n,.bool which] 56 (0,0)):=by rw [<- hW1];exact heap_alloc_new _ _
   have HW1:Hid (_=W1):=hW1;clear hW1;obtain ⟨m0,m1,m2,m3,m4,m5,m6,m7,m8,m9,m10,m11,m12,m13,m14⟩:=b0_ hb1;have z12:W1.frozen? ⟨wr.heap.size,12,none⟩=false:=ab hb1;have v0:=hf1.cell y0 id;have v1:=hf1.cell y1 id;have ne0:wr.heap.size≠wb:=by omega
   have ne1:wr.heap.size≠g1:=by omega
   go_cut [47] (fun v47 wx=>wx=W1/\v47=.bool false)
   case first=>
    by_cases e0:ask=0
    ·subst e0;by_cases k4:11<c.kind
     ·have dk1:decide (11<c.kind)=true:=by simpa using k4
      have dk2:decide (c.kind<=11)=false:=by simpa using k4
      go_wp2;go_meet;case rel=>exact ⟨rfl,rfl⟩
     ·have dk1:decide (11<c.kind)=false:=by simpa using k4
      go_wp2;go_meet;case rel=>exact ⟨rfl,rfl⟩
    ·have d0:(ask==0)=false:=by simpa using e0
     go_wp2;go_meet;case rel=>exact ⟨rfl,rfl⟩
   case rest=>
    obtain ⟨rfl,rfl⟩:=hcut;have hf2:Fr wr wc (fun _=>False):=hf1;have hb2:=hb1;have v1':=hf1.cell y1' id;clear HW1 z12 hb1 hf1;go_upto_if 58 with fail
    go_cut [12] (fun v12 wx=>v12=.pointer (some ⟨Dw.sb,0,none⟩)/\wx=wc)
    case first=>
     cases which
     all_goals go_wp2
     all_goals go_meet
     all_goals exact ⟨by rw [<- HDw.out];rfl,rfl⟩
    case rest=>
     obtain ⟨rfl,hwc2⟩:=hcut;obtain rfl:=hwc2.symm;clear v0 v1 v1' y0 y1 y1' y2 m0 m1 m2 m3 m4 m5 m6 m7 m8 m9 m10 m11 m12 m13 m14;have hst:=bl7 wb U' Dw wc (hGw.frame hf2) (iy.fr hgl' hf2) ask th n which c (.slice A3 c.at_.length cap3) (.slice B3 c.to.length cab3) (.slice Ab bl.length capb) bl (hav'.fr hf2 (fun _ _=>id)) (htv'.fr hf2 (fun _ _=>id)) (hbv'.frame hf2 (fun _ _ _=>id)) hbll hal htl (fun h0 k hk=>⟨by have:=hda h0 k hk;have:=hf2.size;omega,fun e=>by have:=hda h0 k hk;have:=hlo k (.inl e);omega,fun e=>by have:=hda h0 k hk;have:=hlw k e;omega⟩) (fun h0 k hk=>⟨by have:=hdt h0 k hk;have:=hf2.size;omega,fun e=>by have:=hdt h0 k hk;have:=hlo k (.inl e);omega,fun e=>by have:=hdt h0 k hk;have:=hlw k e;omega⟩) (fun h0 k hk=>⟨by have:=hdb h0 k hk;have:=hf2.size;omega,fun e=>by have:=hdb h0 k hk;have:=hlo k (.inl e);omega,fun e=>by have:=hdb h0 k hk;have:=hlw k e;omega⟩) hth0 hth1 hn0 hn1 (fun j hj=>by have:=hn j hj;omega)
     unfold y6 at hst;obtain ⟨m0,m1,m2,m3,m4,m5,m6,m7,m8,m9,m10,m11,m12,m13,m14⟩:=b0_ hb2;go_upto_region 13 with (go_at_call 15;refine hst.mono ?_;rintro e W3 ⟨rfl,U2,D2,hO2⟩)
     have hO:=hO2.of_fr hf2;clear hst hO2 m0 m1 m2 m3 m4 m5 m6 m7 m8 m9 m10 m11 m12 m13 m14 hb2;have hke:=zi wb U2 W3 hO.at_.law hO.at_.good (fun j hj=>by have:=hn j hj;have:=hO.len j hj;omega);go_wp2_with (go_at_call 16;refine hke.mono ?_;rintro e W4 ⟨rfl,q3,rfl⟩)
     go_roundw;case rel=>
      rw [<- HDw.out] at hO;cases which
      ·exact ⟨k+1,U2,D2,E',by omega,by go_num,hI.next0 hO hklt q3⟩
      ·exact ⟨k+1,U2,D',D2,by omega,by go_num,(hI.turn.next0 hO hklt q3).turn⟩
     case measure=>simp [intOf];omega
  ·have y1o:=y1;have y1o':=y1';rw [<- hI.sb0] at y1;have hen:=aq0 wb U' D' wr hG hgl' (fun j hj=>by have:=hn j hj;omega);clear hA hops y1o y1o';go_wp2;refine wp_loop_rounds 3 ?_;rw [rounds_succ];go_upto_region 20 with (go_at_call 17;refine hen.mono ?_;rintro e W2 ⟨rfl,U2,D2,t1,t2,t3,t4,t5,t6,t7,t8⟩)
   clear hen y0 y1 y1' y2;have hE2:fj W2 wb U2 E':=hI.at1.other2 (fun b hb e=>hI.dis b e hb) t1 t2 t3 t4;have hF2:Fr w0 W2 (fun _=>False):=hI.base.step t2 (fun b hb=>.inr (hb.elim (fun e=>hlo b (.inl e)) (fun e=>hlo b (.inr (.inr (.inl e))))))
   have hlo2:∀b,U2.fp wb b\/E'.fp b->w0.heap.size<=b:=fun b hb=>hb.elim (fun e=>(t3 b e).elim (fun e=>hlo b (.inl e)) (fun e=>by omega)) (fun e=>hlo b (.inr (.inr (.inr e))))
   obtain ⟨g2,cp2,y0,y1,y1',y2⟩:=hrow W2 U2 t1.law (t7.trans (hI.r0.trans hr0));rw [<- hI.sb1] at y1';have hen:=aq0 wb U2 E' W2 hE2 (iy.fr hgl hF2) (fun j hj=>by have:=hn j hj;have:=t8 j hj;omega);clear hrow;go_wp2;rw [rounds_succ];go_upto_region 20 with (go_at_call 17;refine hen.mono ?_;rintro e W3 ⟨rfl,U3,E3,u1,u2,u3,u4,u5,u6,u7,u8⟩)
   clear hen y0 y1 y1' y2;have hke:=zi wb U3 W3 u1.law u1.good (fun j hj=>by have:=hn j hj;have:=t8 j hj;have:=u8 j hj;omega);go_wp2;rw [rounds_succ];go_wp2_with (go_at_call 16;refine hke.mono ?_;rintro e W4 ⟨rfl,q3,rfl⟩)
   go_ret;exact ⟨rfl,(hF2.step u2 (fun b hb=>.inr (hlo2 b hb))).drewN q3⟩
end Go.Proofs.YtdpjgflemddekaaGreatDoor
namespace Go.Proofs.YtdpjgflemddekaaGreatDoor
open Go.ChangeShapes Go.WideShapes Go.RowKit
theorem bx5 {H:Type}(d:DataW H):1<=Rows.uptoBulk d:=by
 cases d with
 | lit l=>cases l<;>simp [Rows.uptoBulk]
 | _=>simp [Rows.uptoBulk]
theorem bx2 {H:Type}(l:List (DataW H)):l.length<=Rows.uptoBulkAll l:=by
 induction l with
 | nil=>simp [Rows.uptoBulkAll]
 | cons x r ih=>have:=bx5 x;simp only [Rows.uptoBulkAll,List.length_cons];omega
theorem az5 {H:Type}{d:DataW H}{l:List (DataW H)}(h:d∈l):Rows.uptoBulk d<=Rows.uptoBulkAll l:=by
 induction l with
 | nil=>cases h
 | cons x r ih=>
  simp only [Rows.uptoBulkAll];rcases List.mem_cons.1 h with rfl | e
  ·omega
  ·have:=ih e;omega
theorem ac6 {H:Type}(l r:List (DataW H)):l.length<=Rows.uptoBulk (.slice l r)/\Rows.uptoBulkAll l<=Rows.uptoBulk (.slice l r):=by
 have:=bx2 l;simp only [Rows.uptoBulk];omega
section
variable {H:Type} {enc:TypeId×Value->H} {w:World}
theorem oh:Tryz.prog.cellsOf 3=1:=by kernel_rfl
theorem bs3:Tryz.prog.cellsOf 4=1:=by kernel_rfl
theorem bc_:Tryz.prog.cellsOf 39=1:=by kernel_rfl
theorem by4:Tryz.prog.cellsOf 54=1:=by kernel_rfl
theorem bw9:Tryz.prog.cellsOf 41=10:=by kernel_rfl
theorem bd7:Tryz.prog.cellsOf 56=15:=by kernel_rfl
theorem ay.lt {v:Value}{l:List Int}(h:ay w v l):0<l.length->∀k,v.ownBlock=some k->k<w.heap.size:=by
 obtain ⟨A,cap,rfl,hA⟩:=h;intro h0 k hk;obtain ⟨g,o,rfl,hc⟩:=hA h0;cases hk
 exact World.block_lt_of_cell? _ _ (hc 0 h0)
theorem ap2 {fuel:Nat}{v:Value}{x:DataW H×List MemPlace}(h:DataW.trod enc Tryz.prog w 0 (fun _=>true) true fuel 39 [v]=some x):∃l:List Int,ay w v l/\l.length<=Rows.uptoBulk x.1:=by
 rcases open_ints Tryz.underlying39 Tryz.underlying3 oh h with ⟨hcs,_⟩ | ⟨a,len,cap,zs,hcs,_,hl,_,hz,hx,hcell,_⟩
 ·cases hcs
  exact ⟨[],⟨none,0,rfl,fun h=>absurd h (by decide)⟩,Nat.zero_le _⟩
 ·cases hcs
  have hz:zs.length=cap:=hz;have hll:(zs.take len).length=len:=by rw [List.length_take];omega
  refine ⟨zs.take len,⟨some a,cap,by rw [hll],fun h0=>?_⟩,?_⟩
  ·obtain ⟨b,off,rfl,hc⟩:=ints_at hcell (by rw [hll] at h0;omega);refine ⟨b,off,rfl,fun i hi=>?_⟩
   rw [hc i (by omega)];simp [List.getD,List.getElem?_eq_getElem (show i<zs.length by omega)]
  ·have:=(ac6 (lits (H:=H) .i64 (zs.take len)) (lits .i64 (zs.drop len))).1;rw [hx];simp only [lits,List.length_map] at this;exact this
theorem b31 {α:Type}{l:List α}(h:l.length=15):∃a0 a1 a2 a3 a4 a5 a6 a7 a8 a9 a10 a11 a12 a13 a14,l=[a0,a1,a2,a3,a4,a5,a6,a7,a8,a9,a10,a11,a12,a13,a14]:=by
 match l,h with
 | [a0,a1,a2,a3,a4,a5,a6,a7,a8,a9,a10,a11,a12,a13,a14],_=>exact ⟨_,_,_,_,_,_,_,_,_,_,_,_,_,_,_,rfl⟩
theorem ah2 {x:DataW H×List MemPlace}{xs:List (DataW H×List MemPlace)}{i:Nat}(h:xs[i]?=some x):Rows.uptoBulk x.1<=Rows.uptoBulk (.agg (xs.map (·.1))):=by
 have h1:x.1∈xs.map (·.1):=List.mem_map.2 ⟨x,List.mem_of_getElem? h,rfl⟩;have:=az5 h1;simp only [Rows.uptoBulk];omega
theorem fld {n:Nat}{fs:Array Field}{cs:List Value}{xs:List (DataW H×List MemPlace)}(hf:∀(i:Nat) (f:Field),fs[i]?=some f->DataW.trod enc Tryz.prog w 0 (fun _=>true) true n f.type ((cs.drop f.offset).take (Tryz.prog.cellsOf f.type))=xs[i]?)
 (i:Nat) (f:Field) (h:fs[i]?=some f) (t:TypeId) (o c:Nat) (ht:f.type=t) (ho:f.offset=o) (hc:Tryz.prog.cellsOf t=c) (hi:i<xs.length):DataW.trod enc Tryz.prog w 0 (fun _=>true) true n t ((cs.drop o).take c)=some xs[i]:=by
 subst ht ho hc;rw [hf i f h,List.getElem?_eq_getElem hi]
theorem am0 {base:Nat}{a:Addr}{n:Nat}{cs:List Value}(h:w.cells? base a n=some cs)(j:Nat)(u:Value)(hj:cs[j]?=some u):w.cell? (a.add j)=some u:=by
 unfold World.cells? at h;split at h
 ·have hl:=Lib.mapM_length h;have hjl:j<cs.length:=(List.getElem?_eq_some_iff.1 hj).1;obtain ⟨b,hb,hc⟩:=Lib.mapM_at h j j (by rw [List.length_range] at hl;rw [List.getElem?_range (by omega)]);rw [hj] at hb;cases hb;exact hc
 ·cases h
theorem bk8 {fuel:Nat}{v:Value}{x:DataW H×List MemPlace}(h:DataW.trod enc Tryz.prog w 0 (fun _=>true) true fuel 54 [v]=some x):∃l:List Bool,eo w v l/\l.length<=Rows.uptoBulk x.1:=by
 rcases Deep.open_slice Tryz.underlying54 h with ⟨hcs,_⟩ | ⟨a,len,cap,m,n,D,Pl,hcs,_,hl,_,hm,hx,hel⟩
 ·cases hcs
  exact ⟨[],⟨none,0,rfl,Nat.le_refl _,fun h=>absurd h (by decide)⟩,Nat.zero_le _⟩
 ·cases hcs
  have hm:m=cap:=hm;have hop:∀i,i<len->∃b:Bool,w.cell? (a.add i)=some (.bool b):=by
   intro i hi;obtain ⟨cs',h1,h2⟩:=hel i (by omega);rw [bs3] at h1;obtain ⟨b,e,_⟩:=DataW.trod_bool Tryz.underlying4 h2;subst e;have:=am0 h1 0 _ rfl;rw [Nat.mul_one] at this;exact ⟨b,by simpa [Addr.add] using this⟩
  obtain ⟨f,hf⟩:=Deep.choose_lt hop;refine ⟨(List.range len).map f,⟨some a,cap,by simp,by simp;omega,fun h0=>?_⟩,?_⟩
  ·obtain ⟨g,off,spot⟩:=a;have c0:=hf 0 (by simpa using h0);have hspot:spot=none:=by simpa [Addr.add] using World.cell?_spot c0
   subst hspot;refine ⟨g,off,rfl,fun i hi=>?_⟩
   have hi':i<len:=by simpa using hi
   have:=hf i hi';rw [Go.WideShapes.add_plain] at this;simpa using this
  ·have hs:=(ac6 ((List.range len).map D) ((List.range (m-len)).map fun j=>D (len+j))).1
   rw [hx];simp only [List.length_map,List.length_range] at hs ⊢;exact hs
theorem eo.lt {v:Value}{l:List Bool}(h:eo w v l)(h0:0<l.length)(k:Nat)(hk:v.ownBlock=some k):k<w.heap.size:=by
 obtain ⟨A,cap,rfl,h1,hA⟩:=h;obtain ⟨g,o,rfl,hc⟩:=hA h0;have:g=k:=by simpa [Value.ownBlock] using hk
 subst this;exact World.block_lt_of_cell? _ _ (hc 0 h0)
theorem bz9 {fuel:Nat}{cs:List Value}{x:DataW H×List MemPlace}(h:DataW.trod enc Tryz.prog w 0 (fun _=>true) true fuel 56 cs=some x)(hb:Rows.uptoBulk x.1<=1048576):∃o:OpD,cs=o.vals/\b39 w o:=by
 obtain ⟨xs,n,rfl,rfl,hlen,hxl,hf⟩:=DataW.trod_struct Tryz.underlying56 h;rw [bd7] at hlen;obtain ⟨a0,a1,a2,a3,a4,a5,a6,a7,a8,a9,a10,a11,a12,a13,a14,rfl⟩:=b31 hlen;have hxl:xs.length=6:=hxl;have f0:DataW.trod enc Tryz.prog w 0 (fun _=>true) true n 3 [a0]=some xs[0]:=fld hf 0 _ rfl 3 0 1 rfl rfl oh (by omega);have f1:DataW.trod enc Tryz.prog w 0 (fun _=>true) true n 3 [a1]=some xs[1]:=fld hf 1 _ rfl 3 1 1 rfl rfl oh (by omega);have f2:DataW.trod enc Tryz.prog w 0 (fun _=>true) true n 41 [a2,a3,a4,a5,a6,a7,a8,a9,a10,a11]=some xs[2]:=fld hf 2 _ rfl 41 2 10 rfl rfl bw9 (by omega);have f3:DataW.trod enc Tryz.prog w 0 (fun _=>true) true n 54 [a12]=some xs[3]:=fld hf 3 _ rfl 54 12 1 rfl rfl by4 (by omega);have f4:DataW.trod enc Tryz.prog w 0 (fun _=>true) true n 3 [a13]=some xs[4]:=fld hf 4 _ rfl 3 13 1 rfl rfl oh (by omega);have f5:DataW.trod enc Tryz.prog w 0 (fun _=>true) true n 4 [a14]=some xs[5]:=fld hf 5 _ rfl 4 14 1 rfl rfl bs3 (by omega);obtain ⟨ask,e0,_,_⟩:=DataW.trod_int Tryz.underlying3 f0;obtain ⟨th,e1,_,w1⟩:=DataW.trod_int Tryz.underlying3 f1;obtain ⟨nn,e4,_,w4⟩:=DataW.trod_int Tryz.underlying3 f4;obtain ⟨which,e5,_⟩:=DataW.trod_bool Tryz.underlying4 f5;have hb2:Rows.uptoBulk xs[2].1<=1048576:=Nat.le_trans (ah2 (i:=2) (List.getElem?_eq_getElem (by omega))) hb;obtain ⟨ys,m,_,hy,_,hyl,hg⟩:=DataW.trod_struct Tryz.underlying41 f2;have hyl:ys.length=10:=hyl;rw [hy] at hb2;dsimp only at hb2;have g0:DataW.trod enc Tryz.prog w 0 (fun _=>true) true m 3 [a2]=some ys[0]:=fld hg 0 _ rfl 3 0 1 rfl rfl oh (by omega);have g1:DataW.trod enc Tryz.prog w 0 (fun _=>true) true m 39 [a3]=some ys[1]:=fld hg 1 _ rfl 39 1 1 rfl rfl bc_ (by omega);have g2:DataW.trod enc Tryz.prog w 0 (fun _=>true) true m 39 [a4]=some ys[2]:=fld hg 2 _ rfl 39 2 1 rfl rfl bc_ (by omega);have g3:DataW.trod enc Tryz.prog w 0 (fun _=>true) true m 3 [a5]=some ys[3]:=fld hg 3 _ rfl 3 3 1 rfl rfl oh (by omega);have g4:DataW.trod enc Tryz.prog w 0 (fun _=>true) true m 3 [a6]=some ys[4]:=fld hg 4 _ rfl 3 4 1 rfl rfl oh (by omega);have g5:DataW.trod enc Tryz.prog w 0 (fun _=>true) true m 3 [a7]=some ys[5]:=fld hg 5 _ rfl 3 5 1 rfl rfl oh (by omega);have g6:DataW.trod enc Tryz.prog w 0 (fun _=>true) true m 3 [a8]=some ys[6]:=fld hg 6 _ rfl 3 6 1 rfl rfl oh (by omega);have g7:DataW.trod enc Tryz.prog w 0 (fun _=>true) true m 3 [a9]=some ys[7]:=fld hg 7 _ rfl 3 7 1 rfl rfl oh (by omega);have g8:DataW.trod enc Tryz.prog w 0 (fun _=>true) true m 3 [a10]=some ys[8]:=fld hg 8 _ rfl 3 8 1 rfl rfl oh (by omega);have g9:DataW.trod enc Tryz.prog w 0 (fun _=>true) true m 3 [a11]=some ys[9]:=fld hg 9 _ rfl 3 9 1 rfl rfl oh (by omega);obtain ⟨z0,q0,_,_⟩:=DataW.trod_int Tryz.underlying3 g0;obtain ⟨z3,q3,_,_⟩:=DataW.trod_int Tryz.underlying3 g3;obtain ⟨z4,q4,_,_⟩:=DataW.trod_int Tryz.underlying3 g4;obtain ⟨z5,q5,_,_⟩:=DataW.trod_int Tryz.underlying3 g5;obtain ⟨z6,q6,_,_⟩:=DataW.trod_int Tryz.underlying3 g6;obtain ⟨z7,q7,_,_⟩:=DataW.trod_int Tryz.underlying3 g7;obtain ⟨z8,q8,_,_⟩:=DataW.trod_int Tryz.underlying3 g8;obtain ⟨z9,q9,_,_⟩:=DataW.trod_int Tryz.underlying3 g9;obtain ⟨l1,i1,b1⟩:=ap2 g1;obtain ⟨l2,i2,b2⟩:=ap2 g2;have c1:=ah2 (xs:=ys) (i:=1) (List.getElem?_eq_getElem (by omega));have c2:=ah2 (xs:=ys) (i:=2) (List.getElem?_eq_getElem (by omega));obtain ⟨l3,i3,b3⟩:=bk8 f3;have hb3:Rows.uptoBulk xs[3].1<=1048576:=Nat.le_trans (ah2 (i:=3) (List.getElem?_eq_getElem (by omega))) hb;cases e0;cases e1;cases e4;cases e5;cases q0;cases q3;cases q4;cases q5;cases q6;cases q7;cases q8;cases q9
 refine ⟨⟨ask,th,⟨z0,l1,l2,z3,z4,z5,z6,z7,z8,z9⟩,a3,a4,a12,nn,which,l3⟩,rfl,⟨i1,i2,?_,?_,i1.lt,i2.lt,(bounds_i64 w1).1,(bounds_i64 w1).2,(bounds_i64 w4).1,(bounds_i64 w4).2,i3,?_,i3.lt⟩⟩
 ·show l1.length<=1048576;omega
 ·show l2.length<=1048576;omega
 ·show l3.length<=1048576;omega
end
end Go.Proofs.YtdpjgflemddekaaGreatDoor
