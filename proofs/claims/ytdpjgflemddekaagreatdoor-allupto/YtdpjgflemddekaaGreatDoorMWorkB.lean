/- The code: workOffLast, one slot. -/
import Derived.Test.YtdpjgflemddekaaGreatDoorMTakeA
import Derived.Deep.DeepCutAuto
import Derived.Deep.CutBlock
set_option maxRecDepth 100000
set_option maxHeartbeats 8000000
namespace Go.Proofs.YtdpjgflemddekaaGreatDoor
open Go.RowKit
theorem workLast_step (kb:Nat)(K:Ker)(A:List (Int×Int))(nd left:Int)(V:KerV)(w:World)(h:KD w kb ⟨K,A++[(nd,left)]⟩ V)(hl:A.length+1<=900000)(h0:1<=left)(h1:left<=1000000)(S2:KS)
 (hS2:S2=ci ⟨K,A++[(nd,left-1)]⟩ ⟨nd,left-1⟩)
 (htk:∀w1 c,KD w1 kb ⟨K,A++[(nd,left-1)]⟩ V->Fr w w1 (V.fd kb)->K.held ⟨nd,left-1⟩=some c->
   Calls Tryz.prog 101 #[.pointer (some ⟨kb,0,none⟩),.agg #[.int .i64 nd,.int .i64 (left-1)]] w1 fun e w'=>e=.returned (.tuple #[])/\KDOut w1 kb V S2 w') :
 Calls Tryz.prog 93 #[.pointer (some ⟨kb,0,none⟩)] w fun e w'=>e=.returned (.tuple #[])/\KDOut w kb V S2 w':=by
 obtain ⟨g,cap,hd,hc,hm,hg,d0,d1,dz⟩:=h.last;have hcd:=h.ker.cd;rw [hd] at hcd;have hw1:IntKind.i64.wrap (((A.length+1:Nat):Int)-1)=(A.length:Int):=by rw [IntKind.wrap_i64];omega
 have hw2:IntKind.i64.wrap (left-1)=left-1:=by rw [IntKind.wrap_i64];omega
 have hz1:(0:Int)<=(A.length:Int):=by omega
 have hz2:(A.length:Int)<((A.length+1:Nat):Int):=by omega
 have hz3:(A.length:Int)<(A.length:Int)+1:=by omega
 have hl0:¬left=0:=by omega
 have hkg:kb≠g:=fun e=>h.ap g (by rw [hd];rfl) (.inl e.symm)
 have hle:=h.less hd (left-1);have hF1:Fr w (w.setCell ⟨g,A.length*2+1,none⟩ (.int .i64 (left-1))) (V.fd kb):=(Fr.set1 w g _ _).mono (fun k hk=>.inr (by rw [hd,hk];rfl))
 go_enter Tryz.func93,Tryz.ntmps93
 go_upto_region 4 with fail
 generalize hW1:w.setCell ⟨g,A.length*2+1,none⟩ (.int .i64 (left-1))=W1 at *
 clear hW1 hcd d0 d1 dz;obtain ⟨g',cap',hd',hc',_,hg',e0,e1,_⟩:=hle.last;have hcd1:=hle.ker.cd;rw [hd] at hd' hcd1;cases hd'
 have hk7:kb<W1.heap.size:=World.block_lt_of_cell? _ _ hcd1;have hk8:¬kb=W1.heap.size:=by omega
 have hk9:¬g=W1.heap.size:=by omega
 go_cut [3] (fun u wx=>u=.pointer (some ⟨W1.heap.size,0,none⟩)/\Fr W1 wx (fun _=>False)/\wx.heap[W1.heap.size]?=some (.cells #[.int .i64 nd,.int .i64 (left-1)] 71 (0,0)))
 case first=>
  go_region_law (fail)
  all_goals
   go_wp2;go_meet;case rel=>exact ⟨rfl,(by first | exact ((Fr.refl W1 _).drew).alloc _ | exact ((Fr.refl W1 _).alloc _).drew),heap_alloc_new W1 _⟩
 case rest=>
 obtain ⟨rfl,hf2,hb2⟩:=hcut;obtain ⟨W2,hWW⟩:∃W2,W2=wc:=⟨wc,rfl⟩;subst hWW;have hK2:=hle.frame hf2 (fun _ _=>id);have hF2:Fr w W2 (V.fd kb):=hF1.step hf2 (fun _=>False.elim);have hKd:=hK2.frame ((Fr.refl W2 (fun _=>False)).drew) (fun _ _=>id);have hlk:V.ker.held ⟨nd,left-1⟩=K.held ⟨nd,left-1⟩:=by rw [h.eq]
 have hrun:=ar hKd.ker ⟨nd,left-1⟩ true;clear hle hF1 hf2 h e0 e1 hcd1 hd hc hm hg hc' hg' hw1 hw2 hz1 hz2 hz3 hl0 hkg;have s0:=aa (o:=0) hb2 rfl;have s1:=aa (o:=1) hb2 rfl;have ch2:=hK2.ker.ch;have HS2:Hid (S2=ci ⟨K,A++[(nd,left-1)]⟩ ⟨nd,left-1⟩):=hS2;clear hS2;cases hh:K.held ⟨nd,left-1⟩ with
 | none=>
  have hfin:Hid (S2=⟨K,A++[(nd,left-1)]⟩):=by show _=_;rw [HS2.out,takeK_none hh]
  have hout:KDOut w kb V S2 W2.drew:=by rw [hfin.out];exact ⟨V,hKd,hF2.drew,fun k hk=>.inl hk⟩
  rw [hlk,hh] at hrun;simp only [if_true,Option.isSome] at hrun;go_upto_region 5 with fail
  go_cut [4,5] (fun _ u wx=>u=.bool false/\wx=W2.drew)
  case first=>
   go_region_law (fail)
   all_goals
    go_wp2;go_meet;case rel=>exact ⟨rfl,rfl⟩
  case rest=>
  obtain ⟨rfl,hw⟩:=hcut;rw [<- hw] at hout;clear hrun hw;go_wp2;go_end0;exact ⟨rfl,hout⟩
 | some c=>
  rw [hlk,hh] at hrun;simp only [if_true,Option.isSome] at hrun;have hta:=htk W2.drew c hKd hF2.drew hh;go_upto_region 5 with fail
  go_cut [4,5] (fun _ u wx=>u=.bool true/\wx=W2.drew)
  case first=>
   go_region_law (fail)
   all_goals
    go_wp2;go_meet;case rel=>exact ⟨rfl,rfl⟩
  case rest=>
  obtain ⟨rfl,hw⟩:=hcut;have s0':=s0;have s1':=s1;rw [<- hw] at hta;have hb3:wc.heap[W1.heap.size]?=some (.cells #[.int .i64 nd,.int .i64 (left-1)] 71 (0,0)):=by rw [hw];exact hb2
  have hF3:Fr w wc (V.fd kb):=by rw [hw];exact hF2.drew
  clear hrun hw s0 s1 s0' s1';have s0:=aa (o:=0) hb3 rfl;have s1:=aa (o:=1) hb3 rfl;go_wp2_with (go_at_call 101;refine hta.mono ?_;rintro e W5 ⟨rfl,V5,k1,k2,k3⟩)
  go_end0;exact ⟨rfl,V5,k1,hF3.step k2 (fun k hk=>.inl hk),fun k hk=>(k3 k hk).imp id (fun e=>Nat.le_trans hF3.size e)⟩
end Go.Proofs.YtdpjgflemddekaaGreatDoor
