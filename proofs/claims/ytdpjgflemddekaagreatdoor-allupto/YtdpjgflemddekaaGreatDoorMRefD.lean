/- The document's answer: Caps. -/
import Derived.Test.YtdpjgflemddekaaGreatDoorMRefC
import Derived.Test.YtdpjgflemddekaaGreatDoorMBase
import Derived.Deep.RegionHeld
set_option maxRecDepth 100000
set_option maxHeartbeats 1000000
namespace Go.Proofs.YtdpjgflemddekaaGreatDoor
open Go.RowKit
theorem infoAEnt:(Tryz.prog.info? 48).map (fun i=>(i.zero,i.size,i.bytes))=some (some (.agg #[.int .i64 0,.int .i64 0,.int .i64 0,.int .i64 0,.int .i64 0,.int .i64 0,.int .i64 0,.int .i64 0,.int .i64 0,.int .i64 0]),10,80):=by kernel_rfl
theorem rcaps_any (R:Ref)(V:RefV)(kb:Nat)(w:World)(h:RefAt w kb R V)
 (hn:R.L.length<=1000000) (hb:∀i (hi:i<R.L.length),0<=R.L[i].up/\R.L[i].up<=1000000) :
 Calls Tryz.prog 52 #[.pointer (some ⟨kb,0,none⟩)] w fun e' w'=>∃v',e'=.returned v'/\
  w'.ownsRow w.heap.size 48 10 v' R.L.length (rowA (capsTo R.L R.L.length))/\Fr w w' (fun _=>False):=by
 obtain ⟨i0,hi0,hz0,hz1,hz2⟩:=info_parts infoAEnt;obtain ⟨A,cap,hlv,hA⟩:=h.ll;go_enter Tryz.func52,Tryz.ntmps52
 go_wp2;go_loopw [3,4] (fun out i w'=>Fr w w' (fun _=>False)/\∃k:Nat,k<=R.L.length/\i=.int .i64 k/\w'.ownsRow w.heap.size 48 10 out k (rowA (capsTo R.L k))) (fun _ i _=>R.L.length-(intOf i).toNat)
 case atStart=>exact ⟨Fr.refl _ _,0,Nat.zero_le _,rfl,World.ownsRow_nil _ _ _ _⟩
 case round=>
  obtain ⟨hf,k,hk,rfl,hown⟩:=hrel;have h1:RefAt wr kb R V:=h.frame hf (fun _ _=>id);have hc1:wr.cell? ⟨kb,0,none⟩=some (Value.slice A R.L.length cap):=by rw [<- hlv];exact h1.cl
  by_cases hlt:k<R.L.length
  ·obtain ⟨g,rfl,hc⟩:=hA (by omega);have hcw:∀i (hi:i<R.L.length),EntAt wr g (i*9) R.L[i]:=by
    obtain ⟨A',cap',hlv',hA'⟩:=h1.ll;obtain ⟨g',rfl,hc'⟩:=hA' (by omega);rw [hlv] at hlv';cases hlv'
    exact entAt hc'
   obtain ⟨e0,e1,e2,e3,e4,e5,e6,e7,e8⟩:=hcw k hlt;have hglt:g<wr.heap.size:=World.block_lt_of_cell? wr _ e0;have hklt:kb<wr.heap.size:=World.block_lt_of_cell? wr _ hc1;clear hA hc;go_wp2;go_region_held (fun w'=>w'.cell? ⟨kb,0,none⟩=some (Value.slice (some ⟨g,0,none⟩) R.L.length cap)/\w'.cell? ⟨g,k*9,none⟩=some (.int .i64 R.L[k].node)/\w'.cell? ⟨g,k*9+1,none⟩=some (.int .i64 R.L[k].index)/\w'.cell? ⟨g,k*9+2,none⟩=some (.int .i64 R.L[k].ty)/\w'.cell? ⟨g,k*9+3,none⟩=some (.int .i64 R.L[k].base)/\w'.cell? ⟨g,k*9+4,none⟩=some (.int .i64 R.L[k].bits)/\w'.cell? ⟨g,k*9+5,none⟩=some (.int .i64 R.L[k].rights)/\w'.cell? ⟨g,k*9+6,none⟩=some (.int .i64 R.L[k].badge)/\w'.cell? ⟨g,k*9+7,none⟩=some (.int .i64 R.L[k].mark)) (go_keep) (fail)
   generalize hW1:(wr.alloc (Obj.cells #[.int .i64 R.L[k].node,.int .i64 R.L[k].index,.int .i64 R.L[k].ty,.int .i64 R.L[k].base,.int .i64 R.L[k].bits,.int .i64 R.L[k].rights,.int .i64 R.L[k].badge,.int .i64 R.L[k].mark,.int .i64 (-1),.int .i64 (-1)] 48)).drew=W1;have hf1:Fr wr W1 (fun _=>False):=by rw [<- hW1];exact ((Fr.refl _ _).alloc _).drew
   have hb1:W1.heap[wr.heap.size]?=some (Obj.cells #[.int .i64 R.L[k].node,.int .i64 R.L[k].index,.int .i64 R.L[k].ty,.int .i64 R.L[k].base,.int .i64 R.L[k].bits,.int .i64 R.L[k].rights,.int .i64 R.L[k].badge,.int .i64 R.L[k].mark,.int .i64 (-1),.int .i64 (-1)] 48):=by rw [<- hW1];exact heap_alloc_new _ _
   have hsz:w.heap.size<=W1.heap.size:=Nat.le_trans hf.size hf1.size;have hszr:w.heap.size<=wr.heap.size:=hf.size;have hltr:∀r,u3.ownBlock=some r->r<wr.heap.size:=fun r hr=>(hown.lt r hr).2
   have hs1:wr.heap.size<W1.heap.size:=(Array.getElem?_eq_some_iff.1 hb1).1;clear hW1;have h2:RefAt W1 kb R V:=h1.frame hf1 (fun _ _=>id);have hc2:W1.cell? ⟨kb,0,none⟩=some (Value.slice (some ⟨g,0,none⟩) R.L.length cap):=by rw [<- hlv];exact h2.cl
   have hown2:=hf1.owns hown (fun _ _=>id);have hcw2:∀i (hi:i<R.L.length),EntAt W1 g (i*9) R.L[i]:=fun i hi=>
    ⟨hf1.cell (hcw i hi).c0 id,hf1.cell (hcw i hi).c1 id,hf1.cell (hcw i hi).c2 id,hf1.cell (hcw i hi).c3 id,hf1.cell (hcw i hi).c4 id,hf1.cell (hcw i hi).c5 id,hf1.cell (hcw i hi).c6 id,hf1.cell (hcw i hi).c7 id,hf1.cell (hcw i hi).c8 id⟩
   have f8:=(hcw2 k hlt).c8;clear hcw h1 hc1 e0 e1 e2 e3 e4 e5 e6 e7 e8;go_wp2;go_loopw [6] (fun p w'=>(∃q,w'=W1.drewN q)/\∃m:Nat,m<=k/\p=.int .i64 ((m:Int)-1)/\Hid (par R.L R.L[k].up k=par R.L R.L[k].up m)) (fun p _=>(intOf p+1).toNat)
   case atStart=>exact ⟨⟨0,rfl⟩,k,Nat.le_refl _,rfl,rfl⟩
   case round=>
    obtain ⟨⟨q,rfl⟩,m,hm,rfl,HP⟩:=hrel;cases m with
    | zero=>
     rw [show (((0:Nat):Int)-1)=-1 by rfl];have k0:=aa (o:=0) hb1 rfl;have k1:=aa (o:=1) hb1 rfl;have k2:=aa (o:=2) hb1 rfl;have k3:=aa (o:=3) hb1 rfl;have k4:=aa (o:=4) hb1 rfl;have k5:=aa (o:=5) hb1 rfl;have k6:=aa (o:=6) hb1 rfl;have k7:=aa (o:=7) hb1 rfl;have k8:=aa (o:=8) hb1 rfl;have k9:=aa (o:=9) hb1 rfl;have hownX:(W1.drewN q).ownsRow w.heap.size 48 10 u3 k (rowA (capsTo R.L k)):=hown2;have hfX:Fr w (W1.drewN q) (fun _=>False):=(hf.step hf1 (fun _=>False.elim)).drewN q;clear hf1 hb1;go_wp2_with (at_builtin;go_must (refine wpList_append_own _ rfl _ _ 43 rfl w.heap.size 48 i0 _ 10 80 Tryz.underlying43 hi0 hz0 hz1 hz2 rfl (by decide) _ k _ rfl (World.ownsRow.alloc hownX _) ⟨_,0,none⟩ 1 1 [.int .i64 R.L[k].node,.int .i64 R.L[k].index,.int .i64 R.L[k].ty,.int .i64 R.L[k].base,.int .i64 R.L[k].bits,.int .i64 R.L[k].rights,.int .i64 R.L[k].badge,.int .i64 R.L[k].mark,.int .i64 (-1),.int .i64 (-1)] rfl rfl (cg _ _ _) (AEnt.one ⟨R.L[k].node,R.L[k].index,R.L[k].ty,R.L[k].base,R.L[k].bits,R.L[k].rights,R.L[k].badge,R.L[k].mark,(-1),(-1)⟩) ?_ ?_ ?_ ?_))
     ·unfold maxLen;omega
     ·omega
     ·simp;omega
     intro v5 W5 hown5 hg5 hnil5;have hlt5:=World.ownsRow.lt hownX;have hf5:Fr w W5 (fun _=>False):=((hfX).alloc _).grown hg5 (fun r hr=>.inr (hlt5 r hr).1)
     have hrow:rowA (capsTo R.L (k+1))=rowA (capsTo R.L k)++[.int .i64 R.L[k].node,.int .i64 R.L[k].index,.int .i64 R.L[k].ty,.int .i64 R.L[k].base,.int .i64 R.L[k].bits,.int .i64 R.L[k].rights,.int .i64 R.L[k].badge,.int .i64 R.L[k].mark,.int .i64 (-1),.int .i64 (-1)]:=by
      rw [capsTo_succ _ _ hlt];unfold rowA;rw [List.flatMap_append];simp [AEnt.vals,aent,HP.out,par]
     rw [<- hrow] at hown5;clear hrow hg5 hnil5;go_wp2;go_roundw;case rel=>exact ⟨hf5,k+1,by omega,by go_num,hown5⟩
     case measure=>simp [intOf];omega
    | succ m=>
     have hml:m<R.L.length:=by omega
     rw [show (((m+1:Nat):Int)-1)=(m:Int) by omega];obtain ⟨m0,m1,_,_,_,_,_,_,m8⟩:=hcw2 m hml;obtain ⟨hbk,hbk2⟩:=hb k hlt;by_cases hup:R.L[m].up=R.L[k].up-1
     ·have hup':(R.L[m].up==R.L[k].up-1)=true:=by simpa using hup
      have hz1':W1.frozen? ⟨wr.heap.size,8,none⟩=false:=ab hb1;have hz2':W1.frozen? ⟨wr.heap.size,9,none⟩=false:=ab hb1;have k0:=aa (o:=0) hb1 rfl;have k1:=aa (o:=1) hb1 rfl;have k2:=aa (o:=2) hb1 rfl;have k3:=aa (o:=3) hb1 rfl;have k4:=aa (o:=4) hb1 rfl;have k5:=aa (o:=5) hb1 rfl;have k6:=aa (o:=6) hb1 rfl;have k7:=aa (o:=7) hb1 rfl;have k8:=aa (o:=8) hb1 rfl;have k9:=aa (o:=9) hb1 rfl;go_wp2;go_quiet (fail)
      have hfX:Fr w (((W1.drewN (q+nq)).setCell ⟨wr.heap.size,8,none⟩ (Value.int IntKind.i64 R.L[m].node)).setCell ⟨wr.heap.size,9,none⟩ (Value.int IntKind.i64 R.L[m].index)) (fun _=>False):=(((hf.step hf1 (fun _=>False.elim)).drewN _).setCell (.inr hszr) _ _).setCell (.inr hszr) _ _;have hfY:Fr W1 (((W1.drewN (q+nq)).setCell ⟨wr.heap.size,8,none⟩ (Value.int IntKind.i64 R.L[m].node)).setCell ⟨wr.heap.size,9,none⟩ (Value.int IntKind.i64 R.L[m].index)) (fun r=>r=wr.heap.size):=Fr.setCell (S:=fun r=>r=wr.heap.size) (Fr.setCell (S:=fun r=>r=wr.heap.size) ((Fr.refl _ _).drewN _) (.inl rfl) _ _) (.inl rfl) _ _;have hownX:=hfY.owns hown2 (fun r hr e=>by have:=hltr r hr;omega);clear hfY;go_wp2_with (at_builtin;go_must (refine wpList_append_own _ rfl _ _ 43 rfl w.heap.size 48 i0 _ 10 80 Tryz.underlying43 hi0 hz0 hz1 hz2 rfl (by decide) _ k _ rfl (World.ownsRow.alloc hownX _) ⟨_,0,none⟩ 1 1 [.int .i64 R.L[k].node,.int .i64 R.L[k].index,.int .i64 R.L[k].ty,.int .i64 R.L[k].base,.int .i64 R.L[k].bits,.int .i64 R.L[k].rights,.int .i64 R.L[k].badge,.int .i64 R.L[k].mark,.int .i64 R.L[m].node,.int .i64 R.L[m].index] rfl rfl (news_at _ _ _ _ (by simp)) (AEnt.one ⟨R.L[k].node,R.L[k].index,R.L[k].ty,R.L[k].base,R.L[k].bits,R.L[k].rights,R.L[k].badge,R.L[k].mark,R.L[m].node,R.L[m].index⟩) ?_ ?_ ?_ ?_))
      ·unfold maxLen;omega
      ·omega
      ·simp;omega
      intro v5 W5 hown5 hg5 hnil5;have hlt5:=World.ownsRow.lt hownX;have hf5:Fr w W5 (fun _=>False):=((hfX).alloc _).grown hg5 (fun r hr=>.inr (hlt5 r hr).1)
      have hrow:rowA (capsTo R.L (k+1))=rowA (capsTo R.L k)++[.int .i64 R.L[k].node,.int .i64 R.L[k].index,.int .i64 R.L[k].ty,.int .i64 R.L[k].base,.int .i64 R.L[k].bits,.int .i64 R.L[k].rights,.int .i64 R.L[k].badge,.int .i64 R.L[k].mark,.int .i64 R.L[m].node,.int .i64 R.L[m].index]:=by
       rw [capsTo_succ _ _ hlt];unfold rowA;rw [List.flatMap_append];simp [AEnt.vals,aent,HP.out,par_hit _ _ _ hml hup]
      rw [<- hrow] at hown5;clear hrow hg5 hnil5;go_wp2;go_roundw;case rel=>exact ⟨hf5,k+1,by omega,by go_num,hown5⟩
      case measure=>simp [intOf];omega
     ·have hup':(R.L[m].up==R.L[k].up-1)=false:=by simpa using hup
      go_wp2;go_quiet (fail)
      go_wp2;go_roundw;case rel=>exact ⟨⟨_,rfl⟩,m,by omega,by go_num,by show _=_;rw [HP.out,par_miss _ _ _ hml hup]⟩
      case measure=>simp [intOf]
  ·go_wp2;go_ret;obtain rfl:k=R.L.length:=by omega
   exact ⟨u3,rfl,hown,hf⟩
end Go.Proofs.YtdpjgflemddekaaGreatDoor
