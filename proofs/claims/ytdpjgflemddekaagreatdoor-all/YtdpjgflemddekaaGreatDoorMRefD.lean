/- The document's answer: Caps. -/
import Derived.Test.YtdpjgflemddekaaGreatDoorMRefA
import Derived.Test.YtdpjgflemddekaaGreatDoorMBaseRet
import Derived.Deep.RegionHeld
set_option maxRecDepth 100000
set_option maxHeartbeats 2000000
namespace Go.Proofs.YtdpjgflemddekaaGreatDoor
open Go.RowKit
theorem am5:(Tryz.prog.info? 48).map (fun i=>(i.zero,i.size,i.bytes))=some (some (.agg #[.int .i64 0,.int .i64 0,.int .i64 0,.int .i64 0,.int .i64 0,.int .i64 0,.int .i64 0,.int .i64 0,.int .i64 0,.int .i64 0]),10,80):=by kernel_rfl
theorem bl2 (R:dq)(V:ax)(kb:Nat)(w:World)(h:aj w kb R V)
 (hn:R.L.length<=1000000) (hb:∀i (hi:i<R.L.length),0<=R.L[i].up/\R.L[i].up<=1000000) :
 Calls Tryz.prog 52 #[.pointer (some ⟨kb,0,none⟩)] w fun e' w'=>∃v',e'=.returned v'/\
  w'.ownsRow w.heap.size 48 10 v' R.L.length (sf (jk R.L R.L.length))/\Fr w w' (fun _=>False):=by
 obtain ⟨i0,hi0,hz0,hz1,hz2⟩:=info_parts am5;obtain ⟨A,cap,hlv,hA⟩:=h.ll;go_enter Tryz.func52,Tryz.ntmps52
 go_wp2;go_loopw [3,4] (fun out i w'=>Fr w w' (fun _=>False)/\∃k:Nat,k<=R.L.length/\i=.int .i64 k/\w'.ownsRow w.heap.size 48 10 out k (sf (jk R.L k))) (fun _ i _=>R.L.length-(intOf i).toNat)
 case atStart=>exact ⟨Fr.refl _ _,0,Nat.zero_le _,rfl,World.ownsRow_nil _ _ _ _⟩
 case round=>
  obtain ⟨hf,k,hk,rfl,hown⟩:=hrel;have h1:aj wr kb R V:=h.frame hf (fun _ _=>id);have hc1:wr.cell? ⟨kb,0,none⟩=some (Value.slice A R.L.length cap):=by rw [<- hlv];exact h1.cl
  by_cases hlt:k<R.L.length
  ·obtain ⟨g,rfl,hc⟩:=hA (by omega);have hcw:∀i (hi:i<R.L.length),a75 wr g (i*9) R.L[i]:=by
    obtain ⟨A',cap',hlv',hA'⟩:=h1.ll;obtain ⟨g',rfl,hc'⟩:=hA' (by omega);rw [hlv] at hlv';cases hlv'
    exact aa0 hc'
   obtain ⟨e0,e1,e2,e3,e4,e5,e6,e7,e8⟩:=hcw k hlt;have hglt:g<wr.heap.size:=World.block_lt_of_cell? wr _ e0;have hklt:kb<wr.heap.size:=World.block_lt_of_cell? wr _ hc1;clear hA hc;go_wp2;go_region_held (fun w'=>w'.cell? ⟨kb,0,none⟩=some (Value.slice (some ⟨g,0,none⟩) R.L.length cap)/\w'.cell? ⟨g,k*9,none⟩=some (.int .i64 R.L[k].node)/\w'.cell? ⟨g,k*9+1,none⟩=some (.int .i64 R.L[k].index)/\w'.cell? ⟨g,k*9+2,none⟩=some (.int .i64 R.L[k].ty)/\w'.cell? ⟨g,k*9+3,none⟩=some (.int .i64 R.L[k].base)/\w'.cell? ⟨g,k*9+4,none⟩=some (.int .i64 R.L[k].bits)/\w'.cell? ⟨g,k*9+5,none⟩=some (.int .i64 R.L[k].rights)/\w'.cell? ⟨g,k*9+6,none⟩=some (.int .i64 R.L[k].badge)/\w'.cell? ⟨g,k*9+7,none⟩=some (.int .i64 R.L[k].mark)) (go_keep) (fail)
   generalize hW1:(wr.alloc (Obj.cells #[.int .i64 R.L[k].node,.int .i64 R.L[k].index,.int .i64 R.L[k].ty,.int .i64 R.L[k].base,.int .i64 R.L[k].bits,.int .i64 R.L[k].rights,.int .i64 R.L[k].badge,.int .i64 R.L[k].mark,.int .i64 (-1),.int .i64 (-1)] 48)).drew=W1;have hf1:Fr wr W1 (fun _=>False):=by rw [<- hW1];exact ((Fr.refl _ _).alloc _).drew
   have hb1:W1.heap[wr.heap.size]?=some (Obj.cells #[.int .i64 R.L[k].node,.int .i64 R.L[k].index,.int .i64 R.L[k].ty,.int .i64 R.L[k].base,.int .i64 R.L[k].bits,.int .i64 R.L[k].rights,.int .i64 R.L[k].badge,.int .i64 R.L[k].mark,.int .i64 (-1),.int .i64 (-1)] 48):=by rw [<- hW1];exact heap_alloc_new _ _
   have hsz:w.heap.size<=W1.heap.size:=Nat.le_trans hf.size hf1.size;have hszr:w.heap.size<=wr.heap.size:=hf.size;have hltr:∀r,u3.ownBlock=some r->r<wr.heap.size:=fun r hr=>(hown.lt r hr).2
   have hs1:wr.heap.size<W1.heap.size:=(Array.getElem?_eq_some_iff.1 hb1).1;clear hW1;have h2:aj W1 kb R V:=h1.frame hf1 (fun _ _=>id);have hc2:W1.cell? ⟨kb,0,none⟩=some (Value.slice (some ⟨g,0,none⟩) R.L.length cap):=by rw [<- hlv];exact h2.cl
   have hown2:=hf1.owns hown (fun _ _=>id);have hcw2:∀i (hi:i<R.L.length),a75 W1 g (i*9) R.L[i]:=fun i hi=>
    ⟨hf1.cell (hcw i hi).c0 id,hf1.cell (hcw i hi).c1 id,hf1.cell (hcw i hi).c2 id,hf1.cell (hcw i hi).c3 id,hf1.cell (hcw i hi).c4 id,hf1.cell (hcw i hi).c5 id,hf1.cell (hcw i hi).c6 id,hf1.cell (hcw i hi).c7 id,hf1.cell (hcw i hi).c8 id⟩
   have f8:=(hcw2 k hlt).c8;clear hcw h1 hc1 e0 e1 e2 e3 e4 e5 e6 e7 e8;go_wp2;go_loopw [6] (fun p w'=>(∃q,w'=W1.drewN q)/\∃m:Nat,m<=k/\p=.int .i64 ((m:Int)-1)/\Hid (par R.L R.L[k].up k=par R.L R.L[k].up m)) (fun p _=>(intOf p+1).toNat)
   case atStart=>exact ⟨⟨0,rfl⟩,k,Nat.le_refl _,rfl,rfl⟩
   case round=>
    obtain ⟨⟨q,rfl⟩,m,hm,rfl,HP⟩:=hrel;cases m with
    | zero=>
     rw [show (((0:Nat):Int)-1)=-1 by rfl];obtain ⟨k0,k1,k2,k3,k4,k5,k6,k7,k8,k9⟩:=w_ hb1;have hownX:(W1.drewN q).ownsRow w.heap.size 48 10 u3 k (sf (jk R.L k)):=hown2;have hfX:Fr w (W1.drewN q) (fun _=>False):=(hf.step hf1 (fun _=>False.elim)).drewN q;clear hf1 hb1;go_wp2_with (at_builtin;go_must (refine wpList_append_own _ rfl _ _ 43 rfl w.heap.size 48 i0 _ 10 80 Tryz.underlying43 hi0 hz0 hz1 hz2 rfl (by decide) _ k _ rfl (World.ownsRow.alloc hownX _) ⟨_,0,none⟩ 1 1 [.int .i64 R.L[k].node,.int .i64 R.L[k].index,.int .i64 R.L[k].ty,.int .i64 R.L[k].base,.int .i64 R.L[k].bits,.int .i64 R.L[k].rights,.int .i64 R.L[k].badge,.int .i64 R.L[k].mark,.int .i64 (-1),.int .i64 (-1)] rfl rfl (dg _ _ _) (ov.one ⟨R.L[k].node,R.L[k].index,R.L[k].ty,R.L[k].base,R.L[k].bits,R.L[k].rights,R.L[k].badge,R.L[k].mark,(-1),(-1)⟩) ?_ ?_ ?_ ?_))
     ·unfold maxLen;omega
     ·omega
     ·simp;omega
     intro v5 W5 hown5 hg5 hnil5;have hlt5:=World.ownsRow.lt hownX;have hf5:Fr w W5 (fun _=>False):=((hfX).alloc _).grown hg5 (fun r hr=>.inr (hlt5 r hr).1)
     have hrow:sf (jk R.L (k+1))=sf (jk R.L k)++[.int .i64 R.L[k].node,.int .i64 R.L[k].index,.int .i64 R.L[k].ty,.int .i64 R.L[k].base,.int .i64 R.L[k].bits,.int .i64 R.L[k].rights,.int .i64 R.L[k].badge,.int .i64 R.L[k].mark,.int .i64 (-1),.int .i64 (-1)]:=by
      rw [sx _ _ hlt];unfold sf;rw [List.flatMap_append];simp [ov.vals,a69,HP.out,par]
     rw [<- hrow] at hown5;clear hrow hg5 hnil5;go_wp2;go_roundw;case rel=>exact ⟨hf5,k+1,by omega,by go_num,hown5⟩
     case measure=>simp [intOf];omega
    | succ m=>
     have hml:m<R.L.length:=by omega
     rw [show (((m+1:Nat):Int)-1)=(m:Int) by omega];obtain ⟨m0,m1,_,_,_,_,_,_,m8⟩:=hcw2 m hml;obtain ⟨hbk,hbk2⟩:=hb k hlt;by_cases hup:R.L[m].up=R.L[k].up-1
     ·have hup':(R.L[m].up==R.L[k].up-1)=true:=by simpa using hup
      have hz1':W1.frozen? ⟨wr.heap.size,8,none⟩=false:=ab hb1;have hz2':W1.frozen? ⟨wr.heap.size,9,none⟩=false:=ab hb1;obtain ⟨k0,k1,k2,k3,k4,k5,k6,k7,k8,k9⟩:=w_ hb1;go_wp2;go_quiet (fail)
      have hfX:Fr w (((W1.drewN (q+nq)).setCell ⟨wr.heap.size,8,none⟩ (Value.int IntKind.i64 R.L[m].node)).setCell ⟨wr.heap.size,9,none⟩ (Value.int IntKind.i64 R.L[m].index)) (fun _=>False):=(((hf.step hf1 (fun _=>False.elim)).drewN _).setCell (.inr hszr) _ _).setCell (.inr hszr) _ _;have hfY:Fr W1 (((W1.drewN (q+nq)).setCell ⟨wr.heap.size,8,none⟩ (Value.int IntKind.i64 R.L[m].node)).setCell ⟨wr.heap.size,9,none⟩ (Value.int IntKind.i64 R.L[m].index)) (fun r=>r=wr.heap.size):=Fr.setCell (S:=fun r=>r=wr.heap.size) (Fr.setCell (S:=fun r=>r=wr.heap.size) ((Fr.refl _ _).drewN _) (.inl rfl) _ _) (.inl rfl) _ _;have hownX:=hfY.owns hown2 (fun r hr e=>by have:=hltr r hr;omega);clear hfY;go_wp2_with (at_builtin;go_must (refine wpList_append_own _ rfl _ _ 43 rfl w.heap.size 48 i0 _ 10 80 Tryz.underlying43 hi0 hz0 hz1 hz2 rfl (by decide) _ k _ rfl (World.ownsRow.alloc hownX _) ⟨_,0,none⟩ 1 1 [.int .i64 R.L[k].node,.int .i64 R.L[k].index,.int .i64 R.L[k].ty,.int .i64 R.L[k].base,.int .i64 R.L[k].bits,.int .i64 R.L[k].rights,.int .i64 R.L[k].badge,.int .i64 R.L[k].mark,.int .i64 R.L[m].node,.int .i64 R.L[m].index] rfl rfl (xf _ _ _ _ (by simp)) (ov.one ⟨R.L[k].node,R.L[k].index,R.L[k].ty,R.L[k].base,R.L[k].bits,R.L[k].rights,R.L[k].badge,R.L[k].mark,R.L[m].node,R.L[m].index⟩) ?_ ?_ ?_ ?_))
      ·unfold maxLen;omega
      ·omega
      ·simp;omega
      intro v5 W5 hown5 hg5 hnil5;have hlt5:=World.ownsRow.lt hownX;have hf5:Fr w W5 (fun _=>False):=((hfX).alloc _).grown hg5 (fun r hr=>.inr (hlt5 r hr).1)
      have hrow:sf (jk R.L (k+1))=sf (jk R.L k)++[.int .i64 R.L[k].node,.int .i64 R.L[k].index,.int .i64 R.L[k].ty,.int .i64 R.L[k].base,.int .i64 R.L[k].bits,.int .i64 R.L[k].rights,.int .i64 R.L[k].badge,.int .i64 R.L[k].mark,.int .i64 R.L[m].node,.int .i64 R.L[m].index]:=by
       rw [sx _ _ hlt];unfold sf;rw [List.flatMap_append];simp [ov.vals,a69,HP.out,bg7 _ _ _ hml hup]
      rw [<- hrow] at hown5;clear hrow hg5 hnil5;go_wp2;go_roundw;case rel=>exact ⟨hf5,k+1,by omega,by go_num,hown5⟩
      case measure=>simp [intOf];omega
     ·have hup':(R.L[m].up==R.L[k].up-1)=false:=by simpa using hup
      go_wp2;go_quiet (fail)
      go_wp2;go_roundw;case rel=>exact ⟨⟨_,rfl⟩,m,by omega,by go_num,by show _=_;rw [HP.out,ai6 _ _ _ hml hup]⟩
      case measure=>simp [intOf]
  ·go_wp2;go_ret;obtain rfl:k=R.L.length:=by omega
   exact ⟨u3,rfl,hown,hf⟩
theorem ae9 (kb:Nat)(root:Int)(c:Cl)(av tv hv:Value)(cs:Array Value)(w:World)(hh:hv=.agg cs):
 Calls Tryz.prog 86 #[.pointer (some ⟨kb,0,none⟩),.int .i64 root,.agg (c.cells av tv),.int .i64 (-1),hv] w fun e' w'=>
  e'=.returned (.int .i64 4)/\Fr w w' (fun _=>False):=by
 subst hh;unfold Cl.cells;go_enter Tryz.func86,Tryz.ntmps86
 go_wp2_with fail
 go_ret;exact ⟨rfl,((Fr.refl _ _).alloc _).alloc _⟩
theorem a35 (kb:Nat)(root:Int)(c:Cl)(av tv:Value)(w:World):
 Calls Tryz.prog 83 #[.pointer (some ⟨kb,0,none⟩),.int .i64 root,.agg (c.cells av tv),.int .i64 (-1),.agg #[.int .i64 0,.int .i64 0,.int .i64 0,.int .i64 0,.int .i64 0,.int .i64 0]] w fun e' w'=>
  e'=.returned (.int .i64 3)/\Fr w w' (fun _=>False):=by
 unfold Cl.cells;go_enter Tryz.func83,Tryz.ntmps83
 go_wp2_with fail
 go_ret;exact ⟨rfl,((Fr.refl _ _).alloc _).alloc _⟩
theorem aj.setBS {w:World}{kb:Nat}{R:dq}{V:ax}(h:aj w kb R V)(bv sv:Value):
 aj ((w.setCell ⟨kb,1029,none⟩ bv).setCell ⟨kb,1030,none⟩ sv) kb R {V with bv:=bv,sv:=sv}:=by
 have hf:Fr w ((w.setCell ⟨kb,1029,none⟩ bv).setCell ⟨kb,1030,none⟩ sv) (fun k=>k=kb):=
  Fr.setCell (S:=fun k=>k=kb) (Fr.setCell (S:=fun k=>k=kb) (Fr.refl _ _) (.inl rfl) _ _) (.inl rfl) _ _
 obtain ⟨c,hc,hcc⟩:=h.blk;refine ⟨⟨_,ak _ kb 1030 sv (ak w kb 1029 bv hc),?_⟩,hf.owns h.l (fun k hk e=>h.kl (e▸hk)),hf.owns h.n (fun k hk e=>h.kn (e▸hk)),hf.owns h.t (fun k hk e=>h.kt (e▸hk)),h.kl,h.kn,h.kt,h.ln,h.lt,h.nt⟩
 obtain ⟨c0,c1,c2,c3,c4,c5,c6,c7,c8⟩:=hcc;refine ⟨by simpa using c0,?_,?_,?_,?_,?_,?_,?_,by simp [c0]⟩
 ·rw [Array.getElem?_setIfInBounds_ne (by omega),Array.getElem?_setIfInBounds_ne (by omega)];exact c1
 ·intro i hi;rw [Array.getElem?_setIfInBounds_ne (by omega),Array.getElem?_setIfInBounds_ne (by omega)];exact c2 i hi
 ·rw [Array.getElem?_setIfInBounds_ne (by omega),Array.getElem?_setIfInBounds_ne (by omega)];exact c3
 ·rw [Array.getElem?_setIfInBounds_ne (by omega),Array.getElem?_setIfInBounds_ne (by omega)];exact c4
 ·rw [Array.getElem?_setIfInBounds_ne (by omega),Array.getElem?_setIfInBounds_ne (by omega)];exact c5
 ·rw [Array.getElem?_setIfInBounds_ne (by omega),Array.getElem?_setIfInBounds_ne (by omega)];exact c6
 ·rw [Array.getElem?_setIfInBounds_ne (by omega)];simp [c0]
def a0_ (w:World)(kb:Nat)(V:ax)(y:Int×dq)(e':Ending)(w':World):Prop:=
 e'=.returned (.tuple #[.int .i64 0,.int .i64 y.1])/\∃V',aj w' kb y.2 V'/\V'.qv=V.qv/\V'.dv=V.dv/\V'.ws=V.ws/\Fr w w' (V.fp kb)/\(∀k,V'.fp kb k->V.fp kb k\/w.heap.size<=k)
theorem ai5 {w W1:World}{kb:Nat}{R:dq}{V:ax}(h:aj w kb R V)(hf:Fr w W1 (fun _=>False)){x:Int}{y:Int×dq}(hy:y=(x,R)):
 a0_ w kb V y (.returned (.tuple #[.int .i64 0,.int .i64 x])) W1:=by
 subst hy;exact ⟨rfl,V,h.frame hf (fun _ _=>id),rfl,rfl,rfl,hf.mono (fun _=>False.elim),fun k hk=>.inl hk⟩
theorem bs4 (R:dq)(V:ax)(kb:Nat)(b:Int)(c:Cl)(av tv bv:Value)(w:World)(h:aj w kb R V)(ho:R.T.length<=900000)
 (hno:∀t,R.T.find? (af b)=some t->t.state≠1\/c.kind<1\/11<c.kind) :
 Calls Tryz.prog 48 #[.pointer (some ⟨kb,0,none⟩),.int .i64 b,.agg (c.cells av tv),bv] w (a0_ w kb V (doR R b c)):=by
 have hct:=h.ct;have hklt:kb<w.heap.size:=World.block_lt_of_cell? w _ hct;unfold Cl.cells;have h1:=fun o:Obj=>h.frame ((Fr.refl w (fun _=>False)).alloc o) (fun _ _=>id)
 rcases j6 (af b) R.T with ⟨hx,hfi⟩ | ⟨p,hp,hx,hfi,_⟩
 ·have HC:Hid (doR R b c=(1,R)):=by show _=_;unfold doR;rw [hfi]
  go_enter Tryz.func48,Tryz.ntmps48
  go_wp2_with fail
  refine (ek R.T kb V.tv b _ (by omega) (h1 _).ct (h1 _).ltt).mono ?_;rintro e w1 ⟨rfl,rfl⟩;unfold thI;rw [hx];go_wp2;go_ret2;exact ai5 h ((Fr.refl _ _).alloc _) HC.out
 ·obtain ⟨g,cap,htv,hcap,hglt,t0,t1,t2,t3,t4,t5⟩:=iq h p hp;rw [htv] at hct;clear htv;by_cases hst:R.T[p].state=1
  ·have hkd:c.kind<1\/11<c.kind:=by
    rcases hno _ hfi with h2 | h2
    ·exact absurd hst h2
    ·exact h2
   have HC:Hid (doR R b c=(7,R)):=by
    show _=_;unfold doR;rw [hfi];show (if R.T[p].state≠1 then (1,R) else if c.kind<1\/11<c.kind then (7,R) else _)=_;rw [if_neg (by simp [hst]),if_pos hkd]
   have hs':(R.T[p].state != 1)=false:=by simpa using hst
   clear hst hno hfi;by_cases hk1:c.kind<1
   ·clear hkd;go_enter Tryz.func48,Tryz.ntmps48
    go_wp2_with fail
    refine (ek R.T kb V.tv b _ (by omega) (h1 _).ct (h1 _).ltt).mono ?_;rintro e w1 ⟨rfl,rfl⟩;unfold thI;rw [hx];go_wp2;go_ret2;exact ai5 h ((Fr.refl _ _).alloc _) HC.out
   ·have hk2:11<c.kind:=by omega
    clear hkd;go_enter Tryz.func48,Tryz.ntmps48
    go_wp2_with fail
    refine (ek R.T kb V.tv b _ (by omega) (h1 _).ct (h1 _).ltt).mono ?_;rintro e w1 ⟨rfl,rfl⟩;unfold thI;rw [hx];go_wp2;go_ret2;exact ai5 h ((Fr.refl _ _).alloc _) HC.out
  ·have HC:Hid (doR R b c=(1,R)):=by
    show _=_;unfold doR;rw [hfi];show (if R.T[p].state≠1 then (1,R) else _)=_;rw [if_pos hst]
   have hs':(R.T[p].state != 1)=true:=by simpa using hst
   clear hst hno hfi;go_enter Tryz.func48,Tryz.ntmps48
   go_wp2_with fail
   refine (ek R.T kb V.tv b _ (by omega) (h1 _).ct (h1 _).ltt).mono ?_;rintro e w1 ⟨rfl,rfl⟩;unfold thI;rw [hx];go_wp2;go_ret2;exact ai5 h ((Fr.refl _ _).alloc _) HC.out
theorem ay.fr' {w w':World}{v:Value}{l:List Int}{S:Nat->Prop}(h:ay w v l)(hf:Fr w w' S)(hs:0<l.length->∀k,v.ownBlock=some k->¬S k):ay w' v l:=by
 obtain ⟨A,cap,rfl,hA⟩:=h;refine ⟨A,cap,rfl,fun h0=>?_⟩
 obtain ⟨g,o,rfl,hc⟩:=hA h0;exact ⟨g,o,rfl,fun i hi=>hf.cell (hc i hi) (hs h0 g rfl)⟩
structure bz6 (R:dq):Prop where
 n:R.L.length<=900000
 m:R.N.length<=900000
 o:R.T.length<=900000
 b:∀l∈R.N,0<=l.bits/\l.bits<=20
 u:∀i (hi:i<R.L.length),0<=R.L[i].up/\R.L[i].up<=900000
theorem af0 (R:dq)(V:ax)(kb:Nat)(root:Int)(c:Cl)(av tv:Value)(p:Nat)(w:World)(h:aj w kb R V)(hR:bz6 R)(hp:p<R.L.length)(hl:c.to.length<=9000000000000000000)
 (htv:ay w tv c.to) (hk:c.kind=2\/c.kind=3\/c.kind=4) :
 Calls Tryz.prog 86 #[.pointer (some ⟨kb,0,none⟩),.int .i64 root,.agg (c.cells av tv),.int .i64 p,.agg #[.int .i64 R.L[p].ty,.int .i64 R.L[p].base,.int .i64 R.L[p].bits,.int .i64 R.L[p].rights,.int .i64 R.L[p].badge,.int .i64 R.L[p].mark]] w fun e' w'=>
  e'=.returned (.int .i64 (bw R root c p R.L[p]).1)/\∃lv',aj w' kb {R with L:=(bw R root c p R.L[p]).2} {V with lv:=lv'}/\Fr w w' (V.fp kb)/\(∀k,lv'.ownBlock=some k->V.lv.ownBlock=some k\/w.heap.size<=k):=by
 have hn:=hR.n;have hm:=hR.m;obtain ⟨hu0,hu1⟩:=hR.u p hp;rcases hk with hk | hk | hk
 ·exact bj2 R V kb root c av tv p w h (by omega) (by omega) hR.b hp hl hu0 (by omega) htv hk
 ·exact bm0 R V kb root c av tv p w h (by omega) (by omega) hR.b hp hl hu0 (by omega) htv hk
 ·refine (bk9 R V kb root c av tv p w h (by omega) (by omega) hR.b hp hl htv hk).mono ?_;rintro e w' ⟨he,h1,hf⟩;exact ⟨he,V.lv,h1,hf,fun k hk=>.inl hk⟩
theorem bv4 (R:dq)(V:ax)(kb:Nat)(b:Int)(c:Cl)(av tv:Value)(ba:Option Addr)(bn bc:Nat)(t:ej)(w:World)(h:aj w kb R V)(hR:bz6 R)
 (hal:c.at_.length<=9000000000000000000) (hl:c.to.length<=9000000000000000000) (hav:ay w av c.at_) (htv:ay w tv c.to)
 (hda:0<c.at_.length->∀k,av.ownBlock=some k->¬V.fp kb k) (hdt:0<c.to.length->∀k,tv.ownBlock=some k->¬V.fp kb k)
 (hk:c.kind=2\/c.kind=3\/c.kind=4) (hfi:R.T.find? (af b)=some t) (hst:t.state=1) :
 Calls Tryz.prog 48 #[.pointer (some ⟨kb,0,none⟩),.int .i64 b,.agg (c.cells av tv),.slice ba bn bc] w (a0_ w kb V (doR R b c)):=by
 have hct:=h.ct;have hklt:kb<w.heap.size:=World.block_lt_of_cell? w _ hct;have hn:=hR.n;have hm:=hR.m;have ho:=hR.o;have h1:=fun o:Obj=>h.frame ((Fr.refl w (fun _=>False)).alloc o) (fun _ _=>id)
 rcases j6 (af b) R.T with ⟨hx,hfi2⟩ | ⟨p,hp,hx,hfi2,_⟩
 ·rw [hfi2] at hfi;cases hfi
 rw [hfi2] at hfi;cases hfi
 obtain ⟨g,cap,htv',hcap,hglt,t0,t1,t2,t3,t4,t5⟩:=iq h p hp;rw [htv'] at hct;clear htv';rw [hst] at t1;have k1:(c.kind==1)=false:=by simp;omega
 have k5:(c.kind==5)=false:=by simp;omega
 have k6:(c.kind==6)=false:=by simp;omega
 have kl:1<=c.kind:=by omega
 have kh:c.kind<=11:=by omega
 have hcells:c.cells av tv=#[.int .i64 c.kind,av,tv,.int .i64 c.ty,.int .i64 c.bits,.int .i64 c.count,.int .i64 c.rights,.int .i64 c.badge,.int .i64 c.value,.int .i64 c.offset]:=rfl;rw [hcells];clear hcells;have hz9:w.frozen? ⟨kb,1029,none⟩=false:=h.fz _;have hz0:w.frozen? ⟨kb,1030,none⟩=false:=h.fz _;obtain ⟨cc,hcb,hcc⟩:=h.blk;have hb9:w.cell? ⟨kb,1029,none⟩=some V.bv:=aa hcb hcc.b;have hb0:w.cell? ⟨kb,1030,none⟩=some V.sv:=aa hcb hcc.s;clear hcb hcc;go_enter Tryz.func48,Tryz.ntmps48
 go_wp2_with fail
 refine (ek R.T kb V.tv b _ (by omega) (h1 _).ct (h1 _).ltt).mono ?_;rintro e w1 ⟨rfl,rfl⟩;unfold thI;rw [hx];go_wp2_with fail
 have h2:=(h.setBS (.slice ba bn bc) (.bool false)).frame ((Fr.refl _ (fun _=>False)).alloc (Obj.cells #[.int .i64 c.kind,av,tv,.int .i64 c.ty,.int .i64 c.bits,.int .i64 c.count,.int .i64 c.rights,.int .i64 c.badge,.int .i64 c.value,.int .i64 c.offset] 41)) (fun _ _=>id);have hf2:Fr w (((w.setCell ⟨kb,1029,none⟩ (.slice ba bn bc)).setCell ⟨kb,1030,none⟩ (.bool false)).alloc (Obj.cells #[.int .i64 c.kind,av,tv,.int .i64 c.ty,.int .i64 c.bits,.int .i64 c.count,.int .i64 c.rights,.int .i64 c.badge,.int .i64 c.value,.int .i64 c.offset] 41)) (V.fp kb):=
  (((Fr.refl _ _).setCell (.inl (.inl rfl)) _ _).setCell (.inl (.inl rfl)) _ _).alloc _
 have hba:=heap_alloc_new ((w.setCell ⟨kb,1029,none⟩ (.slice ba bn bc)).setCell ⟨kb,1030,none⟩ (.bool false)) (Obj.cells #[.int .i64 c.kind,av,tv,.int .i64 c.ty,.int .i64 c.bits,.int .i64 c.count,.int .i64 c.rights,.int .i64 c.badge,.int .i64 c.value,.int .i64 c.offset] 41);rw [bu,bu] at hba;generalize ((w.setCell ⟨kb,1029,none⟩ (.slice ba bn bc)).setCell ⟨kb,1030,none⟩ (.bool false)).alloc (Obj.cells #[.int .i64 c.kind,av,tv,.int .i64 c.ty,.int .i64 c.bits,.int .i64 c.count,.int .i64 c.rights,.int .i64 c.badge,.int .i64 c.value,.int .i64 c.offset] 41)=W2 at *
 have HV:Hid (∃V2:ax,V2={V with bv:=.slice ba bn bc,sv:=.bool false}):=⟨_,rfl⟩;obtain ⟨V2,hV2⟩:=HV.out;rw [<- hV2] at h2;have hfp:∀k,V2.fp kb k->V.fp kb k:=by rw [hV2];exact fun k hk=>hk
 have hfp':∀k,V.fp kb k->V2.fp kb k:=by rw [hV2];exact fun k hk=>hk
 have hV3:V2.qv=V.qv/\V2.dv=V.dv/\V2.ws=V.ws:=by rw [hV2];exact ⟨rfl,rfl,rfl⟩
 clear HV hV2;have ok:∀W' (y:Int×dq),Fr W2 W' (fun _=>False)->doR R b c=y->y.2=R->a0_ w kb V (doR R b c) (.returned (.tuple #[.int .i64 0,.int .i64 y.1])) W':=by
  intro W' y hf hy hy2;subst hy;refine ⟨rfl,V2,?_,hV3.1,hV3.2.1,hV3.2.2,hf2.step hf (fun _=>False.elim),fun k hk=>.inl (hfp k hk)⟩
  rw [hy2];exact h2.frame hf (fun _ _=>id)
 have HD:Hid (doR R b c=match bk R.L R.N R.T[p].root c.at_ with
  | none=>(2,R)
  | some (n,ix)=>match R.L.findIdx? (ee n ix) with
   | none=>(4,R)
   | some p'=>match R.L[p']? with
    | none=>(0,R)
    | some e=>((bw R R.T[p].root c p' e).1,{R with L:=(bw R R.T[p].root c p' e).2})):=by
  show _=_;have q1:¬c.kind=1:=by omega
  unfold doR;rw [hfi2];simp only [hst,ne_eq,not_true_eq_false,if_false,q1];rw [if_neg (by omega)];rfl
 have hav2:=hav.fr' hf2 hda;have htv2:=htv.fr' hf2 hdt;refine (mb R.L R.N kb V2.lv V2.nv av R.T[p].root c.at_ W2 (by omega) (by omega) hal h2.cl h2.ll h2.cn h2.lnn hR.b hav2).mono ?_;rintro e w3 ⟨rfl,q,rfl⟩;have hk0:W2.cell? ⟨w.heap.size,0,none⟩=some (.int .i64 c.kind):=aa hba rfl;cases hf:bk R.L R.N R.T[p].root c.at_ with
 | none=>
  rw [hf] at HD;dsimp only [ts];go_wp2;go_ret2;exact ok _ (2,R) ((Fr.refl _ _).drewN q) HD.out rfl
 | some ni=>
  obtain ⟨n,ix⟩:=ni;rw [hf] at HD;clear hf;dsimp only [ts] at HD ⊢;go_wp2_with fail
  have h3:aj (W2.drewN q) kb R V2:=h2.frame ((Fr.refl _ (fun _=>False)).drewN q) (fun _ _=>id);refine (jj R.L kb V2.lv n ix _ (by omega) h3.cl h3.ll).mono ?_;rintro e w4 ⟨rfl,rfl⟩;have hf23:Fr W2 (W2.drewN q) (fun _=>False):=(Fr.refl _ _).drewN q;have hba3:(W2.drewN q).heap[w.heap.size]?=_:=hba;have hct3:=h3.ct;generalize W2.drewN q=W3 at *
  obtain ⟨kk0,kk1,kk2,kk3,kk4,kk5,kk6,kk7,kk8,kk9⟩:=w_ hba3;have hsw:w.heap.size<W3.heap.size:=(Array.getElem?_eq_some_iff.1 hba3).1;have hkw:kb<W3.heap.size:=by omega
  rcases j6 (ee n ix) R.L with ⟨hx2,hfi3⟩ | ⟨p2,hp2,hx2,hfi3,_⟩
  ·have HD2:Hid (doR R b c=(4,R)):=by
    show _=_;rw [HD.out];have:R.L.findIdx? (ee n ix)=none:=by
     cases hq:R.L.findIdx? (ee n ix) with
     | none=>rfl
     | some v=>rw [hq] at hx2;simp [ad7] at hx2
    rw [this]
   unfold atI;rw [hx2];clear HD;rcases hk with hk | hk | hk
   ·have HK:Hid (c.kind=2):=hk;have e2:(c.kind==2)=true:=by simpa using hk
    clear hk;go_wp2_with fail
    go_must (refine (ae9 kb R.T[p].root c av tv _ _ _ rfl).mono ?_)
    rintro e W5 ⟨rfl,hf5⟩;have hf6:Fr W2 W5 (fun _=>False):=(hf23.alloc _).step hf5 (fun _=>False.elim);clear hf5;go_wp2;go_ret2;exact ok _ (4,R) hf6 HD2.out rfl
   ·have HK:Hid (c.kind=3):=hk;have e2:(c.kind==2)=false:=by rw [hk];rfl
    have e3:(c.kind==3)=true:=by simpa using hk
    clear hk;go_wp2_with fail
    go_must (refine (ae9 kb R.T[p].root c av tv _ _ _ rfl).mono ?_)
    rintro e W5 ⟨rfl,hf5⟩;have hf6:Fr W2 W5 (fun _=>False):=(hf23.alloc _).step hf5 (fun _=>False.elim);clear hf5;go_wp2;go_ret2;exact ok _ (4,R) hf6 HD2.out rfl
   ·have HK:Hid (c.kind=4):=hk;have e2:(c.kind==2)=false:=by rw [hk];rfl
    have e3:(c.kind==3)=false:=by rw [hk];rfl
    have e4:(c.kind==4)=true:=by simpa using hk
    clear hk;go_wp2_with fail
    go_must (refine (ae9 kb R.T[p].root c av tv _ _ _ rfl).mono ?_)
    rintro e W5 ⟨rfl,hf5⟩;have hf6:Fr W2 W5 (fun _=>False):=(hf23.alloc _).step hf5 (fun _=>False.elim);clear hf5;go_wp2;go_ret2;exact ok _ (4,R) hf6 HD2.out rfl
  ·obtain ⟨g2,cap2,hlv2,hcap2,hglt2,d0,d1,d2,d3,d4,d5,d6,d7,d8⟩:=fe h3 p2 hp2;have hc3:=h3.cl;rw [hlv2] at hc3;clear hlv2;have HD2:Hid (doR R b c=((bw R R.T[p].root c p2 R.L[p2]).1,{R with L:=(bw R R.T[p].root c p2 R.L[p2]).2})):=by
    show _=_;rw [HD.out];have:R.L.findIdx? (ee n ix)=some p2:=by
     cases hq:R.L.findIdx? (ee n ix) with
     | none=>rw [hq] at hx2;simp [ad7] at hx2
     | some v=>
      rw [hq] at hx2;have hv0:(v:Int)=(p2:Int):=hx2;have hv:v=p2:=by omega
      rw [hv]
    rw [this];simp only [List.getElem?_eq_getElem hp2]
   unfold atI;rw [hx2];clear HD;have hkk:=hk;have okc:∀W4 W5 lv',Fr W3 W4 (fun _=>False)->aj W5 kb {R with L:=(bw R R.T[p].root c p2 R.L[p2]).2} {V2 with lv:=lv'}->Fr W4 W5 (V2.fp kb)->(∀k,lv'.ownBlock=some k->V2.lv.ownBlock=some k\/W4.heap.size<=k)->
    a0_ w kb V (doR R b c) (.returned (.tuple #[.int .i64 0,.int .i64 (bw R R.T[p].root c p2 R.L[p2]).1])) W5:=by
    intro W4 W5 lv' hf4 h5 hf5 hlt5;have hf24:Fr w W4 (V.fp kb):=(hf2.step hf23 (fun _=>False.elim)).step hf4 (fun _=>False.elim);refine ⟨by rw [HD2.out],{V2 with lv:=lv'},by rw [HD2.out];exact h5,hV3.1,hV3.2.1,hV3.2.2,hf24.step hf5 (fun k hk=>.inl (hfp k hk)),?_⟩
    rintro k (h9 | h9 | h9 | h9)
    ·exact .inl (.inl h9)
    ·rcases hlt5 k h9 with h10 | h10
     ·exact .inl (hfp k (.inr (.inl h10)))
     ·exact .inr (Nat.le_trans hf24.size h10)
    ·exact .inl (hfp k (.inr (.inr (.inl h9))))
    ·exact .inl (hfp k (.inr (.inr (.inr h9))))
   have htv3:=htv2.fr hf23 (fun _ _=>id);rcases hk with hk | hk | hk
   ·have HK:Hid (c.kind=2):=hk;have e2:(c.kind==2)=true:=by simpa using hk
    clear hk;go_wp2_with fail
    have h4:=h3.frame ((Fr.refl W3 (fun _=>False)).alloc (.cells #[.int .i64 R.L[p2].ty,.int .i64 R.L[p2].base,.int .i64 R.L[p2].bits,.int .i64 R.L[p2].rights,.int .i64 R.L[p2].badge,.int .i64 R.L[p2].mark] 46)) (fun _ _=>id);go_must (refine (af0 R V2 kb R.T[p].root c av tv p2 _ h4 hR hp2 hl (htv3.fr ((Fr.refl W3 (fun _=>False)).alloc _) (fun _ _=>id)) hkk).mono ?_)
    rintro e W5 ⟨rfl,lv',h5,hf5,hlt5⟩;have fin:=okc _ W5 lv' ((Fr.refl W3 (fun _=>False)).alloc _) h5 hf5 hlt5;clear okc h5 hf5 hlt5 h4;go_wp2;go_ret2;exact fin
   ·have HK:Hid (c.kind=3):=hk;have e2:(c.kind==2)=false:=by rw [hk];rfl
    have e3:(c.kind==3)=true:=by simpa using hk
    clear hk;go_wp2_with fail
    have h4:=h3.frame ((Fr.refl W3 (fun _=>False)).alloc (.cells #[.int .i64 R.L[p2].ty,.int .i64 R.L[p2].base,.int .i64 R.L[p2].bits,.int .i64 R.L[p2].rights,.int .i64 R.L[p2].badge,.int .i64 R.L[p2].mark] 46)) (fun _ _=>id);go_must (refine (af0 R V2 kb R.T[p].root c av tv p2 _ h4 hR hp2 hl (htv3.fr ((Fr.refl W3 (fun _=>False)).alloc _) (fun _ _=>id)) hkk).mono ?_)
    rintro e W5 ⟨rfl,lv',h5,hf5,hlt5⟩;have fin:=okc _ W5 lv' ((Fr.refl W3 (fun _=>False)).alloc _) h5 hf5 hlt5;clear okc h5 hf5 hlt5 h4;go_wp2;go_ret2;exact fin
   ·have HK:Hid (c.kind=4):=hk;have e2:(c.kind==2)=false:=by rw [hk];rfl
    have e3:(c.kind==3)=false:=by rw [hk];rfl
    have e4:(c.kind==4)=true:=by simpa using hk
    clear hk;go_wp2_with fail
    have h4:=h3.frame ((Fr.refl W3 (fun _=>False)).alloc (.cells #[.int .i64 R.L[p2].ty,.int .i64 R.L[p2].base,.int .i64 R.L[p2].bits,.int .i64 R.L[p2].rights,.int .i64 R.L[p2].badge,.int .i64 R.L[p2].mark] 46)) (fun _ _=>id);go_must (refine (af0 R V2 kb R.T[p].root c av tv p2 _ h4 hR hp2 hl (htv3.fr ((Fr.refl W3 (fun _=>False)).alloc _) (fun _ _=>id)) hkk).mono ?_)
    rintro e W5 ⟨rfl,lv',h5,hf5,hlt5⟩;have fin:=okc _ W5 lv' ((Fr.refl W3 (fun _=>False)).alloc _) h5 hf5 hlt5;clear okc h5 hf5 hlt5 h4;go_wp2;go_ret2;exact fin
end Go.Proofs.YtdpjgflemddekaaGreatDoor
