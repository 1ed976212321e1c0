/- The statements' own function play, of one pair of kernels, without bits. -/
import Derived.Test.YtdpjgflemddekaaGreatDoorMTRo
set_option maxRecDepth 100000
set_option maxHeartbeats 8000000
namespace Go.Proofs.YtdpjgflemddekaaGreatDoor
open Go.RowKit
structure qm (w0:World)(wb:Nat)(U:co)(D:cy)(L:Nat)(k:Nat)(w:World)(U':co)(D':cy):Prop where
 at_:fi w wb U' D'
 base:Fr w0 w (fun _=>False)
 lo:∀b,U'.fp wb b\/U'.cb b\/D'.fp b->w0.heap.size<=b
 sb:D'.sb=D.sb
 r0:U'.rl 0=U.rl 0
 len:∀j,j<6->(U'.rl j).length<=100+4*k
 k:k<=L
theorem qm.next {w0:World}{wb:Nat}{U:co}{D:cy}{L k:Nat}{w:World}{U':co}{D':cy}(h:qm w0 wb U D L k w U' D'){w2:World}{U2:co}{D2:cy}(hO:gj w wb U' D' U2 D2 w2)(hk:k<L)(q:Nat):qm w0 wb U D L (k+1) (w2.drewN q) U2 D2:=by
 have hs:=h.base.size;refine ⟨hO.at_.frame ((Fr.refl _ _).drewN q),(h.base.step hO.fr (fun b hb=>?_)).drewN q,?_,hO.sb.trans h.sb,hO.r0.trans h.r0,fun j hj=>?_,hk⟩
 ·rcases hb with e | e
  ·exact .inr (h.lo b (.inl e))
  ·exact .inr (h.lo b (.inr (.inr e)))
 ·rintro b (e | e | e)
  ·rcases hO.fpU b e with e | e
   ·exact h.lo b (.inl e)
   ·omega
  ·rcases hO.cbU b e with e | e
   ·exact h.lo b (.inr (.inl e))
   ·omega
  ·rcases hO.fpD b e with e | e
   ·exact h.lo b (.inr (.inr e))
   ·omega
 ·have:=h.len j hj;have:=hO.len j hj;omega
theorem qm.skip {w0:World}{wb:Nat}{U:co}{D:cy}{L k:Nat}{w:World}{U':co}{D':cy}(h:qm w0 wb U D L k w U' D')(hk:k<L){o:Obj}:qm w0 wb U D L (k+1) (w.alloc o) U' D':=
 ⟨h.at_.frame ((Fr.refl _ _).alloc o),h.base.alloc o,h.lo,h.sb,h.r0,fun j hj=>by have:=h.len j hj;omega,hk⟩
theorem an9 (most:Int)(w0:World)(wb:Nat)(U:co)(D:cy)(sv:Value)(l:List OpD)(w:World)(hI0:qm w0 wb U D l.length 0 w U D)(hgl:ev w0)(hS:sa w0 sv l)(hr0:U.rl 0=[.pointer (some ⟨D.sb,0,none⟩)]):
 Calls Tryz.prog 9 #[.pointer (some ⟨wb,0,none⟩),sv,.int .i64 most,.bool false] w fun e w'=>e=.returned (.bool true)/\Fr w0 w' (fun _=>False):=by
 obtain ⟨⟨A,cap,rfl,hA⟩,hops,hll⟩:=hS;have hrow:∀W U',io W wb U'->U'.rl 0=[.pointer (some ⟨D.sb,0,none⟩)]->∃g cp,W.cell? ⟨wb,0,none⟩=some (.slice (some ⟨g,0,none⟩) 1 cp)/\W.cell? ⟨g,0,none⟩=some (.pointer (some ⟨D.sb,0,none⟩))/\g<W.heap.size:=by
  intro W U' hL hr;obtain ⟨A0,cap0,_,c0,hc⟩:=hL.at 0 (by omega);have hl0:(U'.rl 0).length=1:=by rw [hr];rfl
  obtain ⟨g,rfl,hg⟩:=hc 0 (by omega);rw [hl0] at c0;have he:(U'.rl 0)[0]'(by omega)=.pointer (some ⟨D.sb,0,none⟩):=by simp [hr]
  rw [he] at hg;exact ⟨g,cap0,c0,hg,World.block_lt_of_cell? _ _ hg⟩
 obtain ⟨g0,cp0,y0,y1,y2⟩:=hrow w U hI0.at_.law hr0;go_enter Tryz.func9,Tryz.ntmps9
 go_wp2;clear y0 y1 y2;go_loopw [10] (fun i w'=>∃(k:Nat) (U':co) (D':cy),k<=l.length/\i=.int .i64 k/\qm w0 wb U D l.length k w' U' D') (fun i _=>l.length-(intOf i).toNat)
 case atStart=>exact ⟨0,U,D,Nat.zero_le _,rfl,hI0⟩
 case round=>
  obtain ⟨k,U',D',hk,rfl,hI⟩:=hrel;clear hI0;have hG:=hI.at_;have hlo:=hI.lo;have hbs:=hI.base.size;have hn:=hI.len;have hgl':=ev.fr hgl hI.base;obtain ⟨g1,cp1,y0,y1,y2⟩:=hrow wr U' hG.law (hI.r0.trans hr0);have yw:wb<wr.heap.size:=World.block_lt_of_cell? _ _ y0;by_cases hklt:k<l.length
  ·obtain ⟨g,o,rfl,hc⟩:=hA (by omega);have hop:=hops _ (List.getElem_mem hklt);have hcs:=fun j x hx=>hI.base.cell (hc k hklt j x hx) id
   have hsb:=hI.sb;generalize l[k]=od at hop hcs;obtain ⟨ask,th,c,av,tv,bv,n,which,bl⟩:=od;obtain ⟨hav,htv,hal,htl,hda,hdt,hth0,hth1,hn0,hn1,hbv,_,_⟩:=hop;dsimp only at hav htv hal htl hda hdt hth0 hth1 hn0 hn1 hbv;obtain ⟨Ab,capb,rfl,_,_⟩:=hbv;have hav':=hav.fr hI.base (fun _ _=>id);have htv':=htv.fr hI.base (fun _ _=>id);obtain ⟨A3,cap3,rfl,hA3⟩:=hav;obtain ⟨B3,cab3,rfl,hB3⟩:=htv;have x0:wr.cell? ⟨g,o+k*15,none⟩=some (.int .i64 ask):=hcs 0 _ rfl;have x1:wr.cell? ⟨g,o+k*15+1,none⟩=some (.int .i64 th):=hcs 1 _ rfl;have x2:wr.cell? ⟨g,o+k*15+2,none⟩=some (.int .i64 c.kind):=hcs 2 _ rfl;have x3:wr.cell? ⟨g,o+k*15+3,none⟩=some (.slice A3 c.at_.length cap3):=hcs 3 _ rfl;have x4:wr.cell? ⟨g,o+k*15+4,none⟩=some (.slice B3 c.to.length cab3):=hcs 4 _ rfl;have x5:wr.cell? ⟨g,o+k*15+5,none⟩=some (.int .i64 c.ty):=hcs 5 _ rfl;have x6:wr.cell? ⟨g,o+k*15+6,none⟩=some (.int .i64 c.bits):=hcs 6 _ rfl;have x7:wr.cell? ⟨g,o+k*15+7,none⟩=some (.int .i64 c.count):=hcs 7 _ rfl;have x8:wr.cell? ⟨g,o+k*15+8,none⟩=some (.int .i64 c.rights):=hcs 8 _ rfl;have x9:wr.cell? ⟨g,o+k*15+9,none⟩=some (.int .i64 c.badge):=hcs 9 _ rfl;have x10:wr.cell? ⟨g,o+k*15+10,none⟩=some (.int .i64 c.value):=hcs 10 _ rfl;have x11:wr.cell? ⟨g,o+k*15+11,none⟩=some (.int .i64 c.offset):=hcs 11 _ rfl;have x12:wr.cell? ⟨g,o+k*15+12,none⟩=some (.slice Ab bl.length capb):=hcs 12 _ rfl;have x13:wr.cell? ⟨g,o+k*15+13,none⟩=some (.int .i64 n):=hcs 13 _ rfl;have x14:wr.cell? ⟨g,o+k*15+14,none⟩=some (.bool which):=hcs 14 _ rfl;have xg:g<wr.heap.size:=World.block_lt_of_cell? _ _ x0;rw [<- hsb] at y1;clear hsb;clear hA hc hcs hrow hops hA3 hB3;go_upto_region 6 with fail
   clear x0 x1 x2 x3 x4 x5 x6 x7 x8 x9 x10 x11 x12 x13 x14;generalize hW1:wr.alloc _=W1;have hf1:Fr wr W1 (fun _=>False):=by rw [<- hW1];exact (Fr.refl _ _).alloc _
   have hb1:W1.heap[wr.heap.size]?=some (.cells #[.int .i64 ask,.int .i64 th,.int .i64 c.kind,.slice A3 c.at_.length cap3,.slice B3 c.to.length cab3,.int .i64 c.ty,.int .i64 c.bits,.int .i64 c.count,.int .i64 c.rights,.int .i64 c.badge,.int .i64 c.value,.int .i64 c.offset,.slice Ab bl.length capb,.int .i64 n,.bool which] 56 (0,0)):=by rw [<- hW1];exact heap_alloc_new _ _
   have HW1:Hid (_=W1):=hW1;clear hW1;obtain ⟨m0,m1,m2,m3,m4,m5,m6,m7,m8,m9,m10,m11,m12,m13,m14⟩:=bg9 hb1;have z12:W1.frozen? ⟨wr.heap.size,12,none⟩=false:=ab hb1;have v0:=hf1.cell y0 id;have v1:=hf1.cell y1 id;have ne0:wr.heap.size≠wb:=by omega
   have ne1:wr.heap.size≠g1:=by omega
   go_cut [47] (fun v47 wx=>wx=W1/\((v47=.bool true)\/(v47=.bool false)))
   case first=>
    by_cases e0:ask=0
    ·subst e0;by_cases k4:most<c.kind
     ·have dk1:decide (most<c.kind)=true:=by simpa using k4
      by_cases k11:c.kind<=11
      ·have dk2:decide (c.kind<=11)=true:=by simpa using k11
       go_wp2;go_meet;case rel=>exact ⟨rfl,.inl rfl⟩
      ·have dk2:decide (c.kind<=11)=false:=by simpa using k11
       go_wp2;go_meet;case rel=>exact ⟨rfl,.inr rfl⟩
     ·have dk1:decide (most<c.kind)=false:=by simpa using k4
      go_wp2;go_meet;case rel=>exact ⟨rfl,.inr rfl⟩
    ·have d0:(ask==0)=false:=by simpa using e0
     go_wp2;go_meet;case rel=>exact ⟨rfl,.inr rfl⟩
   case rest=>
    obtain ⟨rfl,rfl | rfl⟩:=hcut
    ·go_wp2;go_roundw;case rel=>exact ⟨k+1,U',D',by omega,by go_num,by rw [<- HW1.out];exact hI.skip hklt⟩
     case measure=>simp [intOf];omega
    go_upto_if 58 with fail
    generalize hW2:wc.setCell ⟨wr.heap.size,12,none⟩ (.slice none 0 0)=W2;have hb2:W2.heap[wr.heap.size]?=some (.cells #[.int .i64 ask,.int .i64 th,.int .i64 c.kind,.slice A3 c.at_.length cap3,.slice B3 c.to.length cab3,.int .i64 c.ty,.int .i64 c.bits,.int .i64 c.count,.int .i64 c.rights,.int .i64 c.badge,.int .i64 c.value,.int .i64 c.offset,.slice none 0 0,.int .i64 n,.bool which] 56 (0,0)):=by rw [<- hW2];exact ak wc wr.heap.size 12 (.slice none 0 0) hb1
    have hf2:Fr wr W2 (fun _=>False):=by rw [<- hW2];exact hf1.setCell (.inr (Nat.le_refl _)) _ _
    clear hW2 HW1 m0 m1 m2 m3 m4 m5 m6 m7 m8 m9 m10 m11 m12 m13 m14 z12 v0 v1 hb1 hf1;have v0:=hf2.cell y0 id;have v1:=hf2.cell y1 id;go_cut [12] (fun v12 wx=>v12=.pointer (some ⟨D'.sb,0,none⟩)/\wx=W2)
    case first=>
     cases which
     all_goals go_wp2
     all_goals go_meet
     all_goals exact ⟨rfl,rfl⟩
    case rest=>
     obtain ⟨rfl,rfl⟩:=hcut;clear v0 v1 y0 y1 y2;have hst:=a24 wb U' D' wc (hG.frame hf2) (ev.fr hgl' hf2) ask th n which c (.slice A3 c.at_.length cap3) (.slice B3 c.to.length cab3) (.slice none 0 0) [] (hav'.fr hf2 (fun _ _=>id)) (htv'.fr hf2 (fun _ _=>id)) ⟨none,0,rfl,Nat.le_refl _,fun h=>absurd h (by decide)⟩ (by decide) hal htl (fun h0 k hk=>⟨by have:=hda h0 k hk;have:=hf2.size;omega,fun e=>by have:=hda h0 k hk;have:=hlo k (.inl e);omega,fun e=>by have:=hda h0 k hk;have:=hlo k (.inr (.inr e));omega⟩) (fun h0 k hk=>⟨by have:=hdt h0 k hk;have:=hf2.size;omega,fun e=>by have:=hdt h0 k hk;have:=hlo k (.inl e);omega,fun e=>by have:=hdt h0 k hk;have:=hlo k (.inr (.inr e));omega⟩) (fun h0=>absurd h0 (by decide)) hth0 hth1 hn0 hn1 (fun j hj=>by have:=hn j hj;omega)
     unfold wt at hst;obtain ⟨m0,m1,m2,m3,m4,m5,m6,m7,m8,m9,m10,m11,m12,m13,m14⟩:=bg9 hb2;go_upto_region 13 with (go_at_call 15;refine hst.mono ?_;rintro e W3 ⟨rfl,U2,D2,hO2⟩)
     have hO:=hO2.of_fr hf2;clear hst hO2 m0 m1 m2 m3 m4 m5 m6 m7 m8 m9 m10 m11 m12 m13 m14 hb2;have hke:=uu wb U2 W3 hO.at_.law hO.at_.good (fun j hj=>by have:=hn j hj;have:=hO.len j hj;omega);go_wp2_with (go_at_call 16;refine hke.mono ?_;rintro e W4 ⟨rfl,q3,rfl⟩)
     go_roundw;case rel=>exact ⟨k+1,U2,D2,by omega,by go_num,hI.next hO hklt q3⟩
     case measure=>simp [intOf];omega
  ·have hsb:=hI.sb;rw [<- hsb] at y1;clear hsb;have hen:=af4 wb U' D' wr hG hgl' (fun j hj=>by have:=hn j hj;omega);clear hA hrow hops;go_wp2;refine wp_loop_rounds 2 ?_;rw [rounds_succ];go_upto_region 20 with (go_at_call 17;refine hen.mono ?_;rintro e W2 ⟨rfl,U2,D2,t1,t2,t3,t4,t5,t6,t7,t8⟩)
   clear hen;have hke:=uu wb U2 W2 t1.law t1.good (fun j hj=>by have:=hn j hj;have:=t8 j hj;omega);go_wp2;rw [rounds_succ];go_wp2_with (go_at_call 16;refine hke.mono ?_;rintro e W3 ⟨rfl,q3,rfl⟩)
   go_ret;exact ⟨rfl,(hI.base.step t2 (fun b hb=>.inr (hb.elim (fun e=>hlo b (.inl e)) (fun e=>hlo b (.inr (.inr e)))))).drewN q3⟩
end Go.Proofs.YtdpjgflemddekaaGreatDoor
