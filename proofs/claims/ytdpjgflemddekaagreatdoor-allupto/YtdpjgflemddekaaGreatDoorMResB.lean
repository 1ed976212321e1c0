/- The code: reset, gone through to its end. -/
import Derived.Test.YtdpjgflemddekaaGreatDoorMWorkC
import Derived.Test.YtdpjgflemddekaaGreatDoorMTakA
import Derived.Test.YtdpjgflemddekaaGreatDoorMCodeP
import Derived.Deep.LoopGhost
set_option maxRecDepth 100000
set_option maxHeartbeats 4000000
namespace Go.Proofs.YtdpjgflemddekaaGreatDoor
open Go.RowKit Go.Shelf
attribute [local go_sem] Oper.semAt_some
abbrev dwn (m:Int):Int:=max (m-16) 0
abbrev low (m:Int):Bool:=decide (m<=0)
theorem reset_endsK:∀(k:Nat) (m:Int),m<=16*(k:Int)->Ends dwn low k m
 | 0,m,h=>by unfold Ends;simp [low];omega
 | k+1,m,h=>by
  unfold Ends;by_cases hm:m<=0
  ·left;simp [low,hm]
  ·right;exact reset_endsK k _ (by simp only [dwn];omega)
theorem resetK_same {K:Ker}{f:Slot}{b n m:Int}(h:K.held f=some (.untyped b n m)):bt K f b n m m=K:=by
 unfold bt;have h1:upd K.held f (some (.untyped b n m))=K.held:=by
  funext x;simp only [upd];split
  ·rename_i e;rw [e,h]
  ·rfl
 have h2:clrW K.ws (b+m) (m-m)=K.ws:=by
  funext i;unfold clrW;rw [if_neg (by omega)]
 rw [h1,h2]
theorem resetK_step {K:Ker}{f:Slot}{b n m mc lo:Int}(h1:lo<=mc)(h2:mc<=m):({bt K f b n m mc with held:=upd (bt K f b n m mc).held f (some (.untyped b n lo)),ws:=clrW (bt K f b n m mc).ws (b+lo) (mc-lo)}:Ker)=bt K f b n m lo:=by
 unfold bt;simp only;congr 1
 ·funext x;simp only [upd];split<;>rfl
 ·funext i;unfold clrW;by_cases e1:b+lo<=(i:Int)/\(i:Int)<b+lo+(mc-lo)
  ·rw [if_pos e1,if_pos (by omega)]
  ·rw [if_neg e1];by_cases e2:b+mc<=(i:Int)/\(i:Int)<b+mc+(m-mc)
   ·rw [if_pos e2,if_pos (by omega)]
   ·rw [if_neg e2,if_neg (by omega)]
structure ResInv (W1:World)(kb d:Nat)(V:KerV)(K:Ker)(D:List (Int×Int))(f:Slot)(b n m m0:Int)(o2:Obj)(k:Nat)(wr:World)(mc:Int)(V':KerV):Prop where
 kd:KDG wr kb ⟨bt K f b n m mc,D⟩ V'
 ge:0<=mc
 le:mc<=m
 ends:Ends dwn low k mc
 left:(aj dwn low k mc []).1=m0
 fr:Fr W1 wr (fun k=>V.fd kb k\/k=d+1)
 sub:∀k,V'.fd kb k->V.fd kb k\/W1.heap.size<=k
 o2:wr.heap[d+1]?=some o2
theorem max_run (x y:Int)(ats:Array TypeId)(ty:TypeId)(w:World):(Builtin.max_ ats ty #[.int .i64 x,.int .i64 y]).run Tryz.prog w=.ok (.int .i64 (max x y)) w:=by
 simp only [Builtin.max_,List.foldlM_cons,List.foldlM_nil,Builtin.max2];simp only [Sem.run_bind,Sem.run_pure,Result.andThen];congr 2;split<;>omega
theorem reset_goes (kb wb sb d:Nat)(o1 o2:Obj)(K:Ker)(D:List (Int×Int))(f:Slot)(b n m:Int)(V:KerV)(W1:World)(h:KDG W1 kb ⟨K,D⟩ V)(hk:K.held f=some (.untyped b n m))(hb0:0<=b)(hm0:0<=m)(hbm:b+m<=1024)
 (hb:W1.heap[wb]?=some (.cells #[.pointer (some ⟨kb,0,none⟩)] 34 (0,0))) (hs:W1.heap[sb]?=some (.cells #[.int .i64 f.node,.int .i64 f.index] 71 (0,0))) (hwb:¬V.fd kb wb) (hsb:¬V.fd kb sb)
 (hd:W1.heap[d]?=some o1) (hl:W1.heap[d+1]?=some o2) (hdn:¬V.fd kb d) (hdn1:¬V.fd kb (d+1)) (hwd:wb≠d+1) (hsd:sb≠d+1) (h2:2<=d) (hgo:GoesOn Fence.wide 0 Tryz.prog d o1 o2 (fun W=>Fr W1 W (fun k=>V.fd kb k\/k=d+1))) :
 CallsIn Fence.wide 1 Tryz.prog 96 #[.func (.yield (d+1)) #[] #[],.pointer (some ⟨wb,0,none⟩),.pointer (some ⟨sb,0,none⟩)] W1 fun e W'=>(∃v,e=.returned v)/\∃V',KDG W' kb ⟨bt K f b n m (aw m []).1,D⟩ V'/\Fr W1 W' (fun k=>V.fd kb k\/k=d+1)/\(∀k,V'.fd kb k->V.fd kb k\/W1.heap.size<=k)/\W'.heap[d+1]?=some o2:=by
 have hdd:∀k:Nat,(Fence.wide.depth.isSome=true->1<=k):=fun k h=>by cases h
 have hlt1:d+1<W1.heap.size:=(Array.getElem?_eq_some_iff.1 hl).1;have hwlt:wb<W1.heap.size:=(Array.getElem?_eq_some_iff.1 hb).1;have hslt:sb<W1.heap.size:=(Array.getElem?_eq_some_iff.1 hs).1;refine callsIn_wide.2 ?_;obtain ⟨m0,hm0'⟩:∃m0,Hid (m0=(aw m []).1):=⟨_,rfl⟩;rw [<- hm0'.out];go_enter Tryz.func96,Tryz.ntmps96
 go_wp2;go_loopg [23] 100 (fun k _ wr=>∃mc V',ResInv W1 kb d V K D f b n m m0 o2 k wr mc V')
 case atStart=>exact ⟨m,V,by rw [resetK_same hk];exact h,hm0,Int.le_refl _,reset_endsK 100 m (by omega),hm0'.out.symm,Fr.refl _ _,fun k hk=>.inl hk,hl⟩
 case round=>
  obtain ⟨mc,V',hI⟩:=hrel;obtain ⟨hK,hge,hle,hE,hL,hF,hsub,ho2⟩:=hI;have hbw:=hF.same hb (fun e=>e.elim hwb hwd);have hbs:=hF.same hs (fun e=>e.elim hsb hsd);have c0:=aa (o:=0) hbw rfl;have c1:=hK.kd.ker.ch;have s0:=aa (o:=0) hbs rfl;have s1:=aa (o:=1) hbs rfl;have l0:=World.block_lt_of_cell? _ _ c0;have l1:=World.block_lt_of_cell? _ _ c1;have l2:=World.block_lt_of_cell? _ _ s0;have hf2:=(Fr.refl wr (fun _=>False)).alloc (.cells #[.int .i64 0,.int .i64 0,.int .i64 0] 76);have hhk:V'.ker.held f=some (.untyped b n mc):=by rw [hK.kd.eq];simp [bt,upd]
  have hrun:=ar (hK.kd.ker.frame ((Fr.refl wr (fun _=>False)).drew) (fun _ _=>id)) f false;have hrun2:=ar (hK.kd.ker.frame hf2.drew (fun _ _=>id)) f false;simp only [Bool.false_eq_true,if_false,hhk,capV,KCap.val] at hrun hrun2;have hta:=ta_untyped_untyped (.agg #[.int .i64 b,.int .i64 n,.int .i64 mc]);go_upto_region 0 with fail
  go_cut [4,5] (fun v4 v5 wx=>v5=.bool true/\v4=.pointer (some ⟨wr.heap.size,0,none⟩)/\Fr wr wx (fun _=>False)/\wx.heap[wr.heap.size]?=some (.cells #[.int .i64 b,.int .i64 n,.int .i64 mc] 76 (0,0)))
  case first=>
   go_region_held3 (fun w'=>w'.cell? ⟨wb,0,none⟩=some (.pointer (some ⟨kb,0,none⟩))/\w'.cell? ⟨kb,1024,none⟩=some (.map (some V'.hb))/\w'.cell? ⟨sb,0,none⟩=some (.int .i64 f.node)/\w'.cell? ⟨sb,1,none⟩=some (.int .i64 f.index)) (go_keep) (fail)
   all_goals go_wp2
   all_goals go_meet
   all_goals exact ⟨rfl,rfl,((Fr.refl _ _).alloc _).drew,heap_alloc_new _ _⟩
  case rest=>
  obtain ⟨rfl,rfl,hf3,hbx⟩:=hcut;obtain ⟨W3,hWW⟩:∃W3,W3=wc:=⟨wc,rfl⟩;subst hWW;clear hrun hrun2 hta c0 c1 s0 s1 hf2;have hF3:Fr W1 W3 (fun k=>V.fd kb k\/k=d+1):=hF.step hf3 (fun _=>False.elim);have hK3:=hK.frame hf3 (fun _ _=>id) (fun _=>False.elim);have x0:=aa (o:=0) hbx rfl;have x1:=aa (o:=1) hbx rfl;have x2:=aa (o:=2) hbx rfl;by_cases hz:mc=0
  ·have hfin:Hid (mc=m0):=by show _=_;rw [<- hL,workG_done _ _ (by simp [hz])]
   subst hz;clear hE hL hbx hdd;go_wp2;refine bodyPost_ret (v:=.tuple #[]) (by simp [results,Tryz.results96,go_sem]) rfl ⟨⟨_,rfl⟩,V',?_,hF3,hsub,hf3.same ho2 id⟩;rw [<- hfin.out];exact hK3
  ·have hmpos:0<mc:=by omega
   obtain ⟨lo,hlo⟩:∃lo,lo=max (mc-16) 0:=⟨_,rfl⟩;have hlo0:0<=lo:=by omega
   have hlo1:lo<mc:=by omega
   have Hlo:Hid (dwn mc=lo):=hlo.symm;have hw1:IntKind.i64.wrap (mc-16)=mc-16:=by rw [IntKind.wrap_i64];omega
   have hw2:IntKind.i64.wrap (b+lo)=b+lo:=by rw [IntKind.wrap_i64];omega
   have hw3:IntKind.i64.wrap (b+mc)=b+mc:=by rw [IntKind.wrap_i64];omega
   have hmx:=max_run (mc-16) 0;rw [<- hlo] at hmx;obtain ⟨oN,hoN⟩:=Int.eq_ofNat_of_zero_le (show 0<=b+lo by omega);obtain ⟨cN,hcN⟩:∃cN:Nat,mc-lo=(cN:Int)+1:=⟨(mc-lo-1).toNat,by omega⟩;obtain ⟨cells,hcells,hcc⟩:=hK3.kd.ker.blk;have hsl:∀W,(Instr.sliceAt 66 (.pointer (some ⟨kb,0,none⟩)) (some (.int .i64 (b+lo))) (some (.int .i64 (b+mc))) none).run Tryz.prog W=.ok (.slice (some ⟨kb,oN,none⟩) (cN+1) (1024-oN)) W:=fun W=>by
    rw [run_sliceAt_array_lh (P:=Tryz.prog) W 66 ⟨kb,0,none⟩ (by kernel_rfl) .i64 .i64 (b+lo) (b+mc) (by omega) (by omega) (by rw [show Tryz.prog.arrayLen 66=1024 by kernel_rfl];omega)];rw [show (sizeOf (Tryz.prog.elem 66)).run Tryz.prog W=.ok 1 W by kernel_rfl,show Tryz.prog.arrayLen 66=1024 by kernel_rfl];have e1:(b+lo).toNat=oN:=by omega
    have e2:(b+mc).toNat-oN=cN+1:=by omega
    have e3:¬1024=oN:=by omega
    simp only [Result.andThen,slicedAt,e1,e2,if_neg e3,Nat.mul_one,Addr.add_lit,Nat.zero_add]
   have hcl:=fun ty cap=>run_clear_words (P:=Tryz.prog) (w:=W3.drew) 183 65 Tryz.underlying183 (fun w=>by kernel_rfl) cN kb oN cells.toList 69 (show W3.drew.heap[kb]?=_ by rw [Array.toArray_toList];exact hcells) (by rw [Array.length_toList,hcc.size];omega) ty cap
   have hK3d:=hK3.frame ((Fr.refl W3 (fun _=>False)).drew) (fun _ _=>id) (fun _=>False.elim);have hK4:=hK3d.kd.ker.putW hcells oN (cN+1) (by omega) hoN (show mc-lo=((cN+1:Nat):Int) by omega);have hf4:Fr W3 _ (fun k=>k=kb):=((Fr.refl W3 (fun k=>k=kb)).drew).step (Fr.setRow W3.drew kb (laid cells.toList oN (List.replicate (cN+1) (.int .u32 0))).toArray) (fun k e=>.inl e);generalize W3.drew.setRow kb (laid cells.toList oN (List.replicate (cN+1) (.int .u32 0))).toArray=W4 at hcl hK4 hf4;have hkw:wb≠kb:=fun e=>hwb (.inl (.inl e))
   have hks:sb≠kb:=fun e=>hsb (.inl (.inl e))
   have l1':kb<wr.heap.size:=l1;have l0':wb<wr.heap.size:=l0;have l2':sb<wr.heap.size:=l2;have hkx:¬wr.heap.size=kb:=by omega
   have hbw4:=hf4.same (hf3.same hbw id) hkw;have hbs4:=hf4.same (hf3.same hbs id) hks;have hbx4:=hf4.same hbx hkx;have c0:=aa (o:=0) (hf3.same hbw id) rfl;have d0:=aa (o:=0) hbw4 rfl;have y0:=aa (o:=0) hbx4 rfl;have y1:=aa (o:=1) hbx4 rfl;have y2:=aa (o:=2) hbx4 rfl;clear hlo hcells hcc hoN hcN hK3d;obtain ⟨n1,hn1⟩:∃n1,gk=n1+1:=by
    cases gk with
    | zero=>exact absurd hE (by simp [Ends,low];omega)
    | succ n1=>exact ⟨n1,rfl⟩
   have hE2:Ends dwn low n1 lo:=by rw [<- Hlo.out];rw [hn1] at hE;exact hE.resolve_left (by simp [low];omega)
   have hL2:(aj dwn low n1 lo []).1=m0:=by rw [<- hL,hn1,aj,if_neg (by simp [low];omega),<- Hlo.out]
   have Hn:Hid (gk=n1+1):=hn1;clear hE hL hn1;go_upto_region 3 with fail
   go_cut [42] (fun _ wx=>wx=W4)
   case first=>
    go_region_held3 (fun w'=>w'.cell? ⟨wb,0,none⟩=some (.pointer (some ⟨kb,0,none⟩))/\w'.cell? ⟨wr.heap.size,0,none⟩=some (.int .i64 b)/\w'.cell? ⟨wr.heap.size,2,none⟩=some (.int .i64 mc)) (go_keep) (fail)
    all_goals go_wp2
    all_goals go_meet
    all_goals exact rfl
   case rest=>
   have hcut2:=hcut.symm;subst hcut2;clear hcl hsl c0 x0 x1 x2 hw1 hw2 hw3 hmx hbx hK3;have hfx:=Fr.set1 W4 wr.heap.size 2 (.int .i64 lo);have hbx5:=ai W4 wr.heap.size 2 (.int .i64 lo) hbx4;simp at hbx5;have z2:=ab (o:=2) hbx4;go_upto_region 5 with fail
   generalize W4.setCell ⟨wr.heap.size,2,none⟩ (.int .i64 lo)=W5 at *
   have hnx:∀k,V'.fd kb k->k≠wr.heap.size:=fun k hk e=>by have:=hK.lt hk;omega
   have hK5:KerAt W5 kb {V' with ws:=clrW V'.ws (b+lo) (mc-lo)}:=hK4.frame hfx (fun k hk e=>hnx k (.inl hk) e)
   have hF5:Fr W3 W5 (fun k=>k=kb\/k=wr.heap.size):=(hf4.mono (fun _ e=>.inl e)).step hfx (fun k e=>.inl (.inr e))
   have hbw5:=hfx.same hbw4 (by omega);have hbs5:=hfx.same hbs4 (by omega);have hd5:W5.ownsRow 0 116 2 V'.dv D.length (domRow D):=hF5.owns (hf3.owns hK.kd.d (fun _ _=>id)) (fun k hk e=>by
    rcases e with e | e
    ·exact hK.kd.ap k hk (.inl e)
    ·exact hnx k (.inr hk) e)
   clear d0 y0 y1 y2 hbx4 hbw4 hbs4 hfx hK4 z2;have w0:=aa (o:=0) hbw5 rfl;have t0:=aa (o:=0) hbs5 rfl;have t1:=aa (o:=1) hbs5 rfl;have y0:=aa (o:=0) hbx5 rfl;have y1:=aa (o:=1) hbx5 rfl;have y2:=aa (o:=2) hbx5 rfl;have k0:=hK5.ch;have dd5:=(Fr.refl W5 (fun _=>False)).drew;obtain ⟨W6,hrun,hm6,hf6,hs6⟩:=(hK5.frame dd5 (fun _ _=>id)).held.put_run (P:=Tryz.prog) c_ Tryz.underlying59 f (.untyped b n lo);simp only [Slot.val,KCap.val] at hrun;have hK6:=(hK5.frame dd5 (fun _ _=>id)).putH hm6 hf6;go_cut [51] (fun _ wx=>wx=W6)
   case first=>
    go_region_law (fail)
    all_goals
     go_wp2;go_meet;case rel=>rfl
   case rest=>
   have hcut3:=hcut.symm;subst hcut3;clear hrun w0 t0 t1 y0 y1 y2 k0;have hF6:Fr wr W6 (fun k=>k=kb\/k=wr.heap.size\/k=V'.hb):=((hf3.mono (fun _=>False.elim)).step (hF5.step dd5 (fun _=>False.elim)) (fun k e=>by rcases e with e | e;exact .inl (.inl e);exact .inl (.inr (.inl e)))).step hf6 (fun k e=>.inl (.inr (.inr e)))
   have hfdk:V'.fd kb kb:=.inl (.inl rfl);have hfdh:V'.fd kb V'.hb:=.inl (.inr (.inl rfl));have hG6:KDG W6 kb ⟨bt K f b n m lo,D⟩ {V' with ws:=clrW V'.ws (b+lo) (mc-lo),H:=putM f (.untyped b n lo) V'.H}:=by
    refine ⟨⟨hK6,?_,hf6.owns (dd5.owns hd5 (fun _ _=>id)) (fun k hk e=>hK.kd.ap k hk (by rw [e];exact .inr (.inl rfl))),hK.kd.ap⟩,hK.gl.far hF6 (fun k e=>?_),hK.ge⟩
    ·rw [<- resetK_step (K:=K) (f:=f) (b:=b) (n:=n) (m:=m) (mc:=mc) (lo:=lo) (by omega) hle];have e1:=hK.kd.eq;simp only at e1;rw [<- e1];simp only [KerV.ker,look_put_fun]
    ·rcases e with e | e | e
     ·rw [e];exact hK.ge _ hfdk
     ·have:=hK.gl.lt;omega
     ·rw [e];exact hK.ge _ hfdh
   have hFW:Fr W1 W6 (fun k=>V.fd kb k\/k=d+1):=hF.step hF6 (fun k e=>by
    rcases e with e | e | e
    ·rw [e];exact (hsub kb hfdk).imp (fun h=>.inl h) id
    ·exact .inr (by have:=hF.size;omega)
    ·rw [e];exact (hsub V'.hb hfdh).imp (fun h=>.inl h) id)
   have hlen1:=hF.size;have hn6:∀k,(k=d\/k=d+1)->¬(k=kb\/k=wr.heap.size\/k=V'.hb):=by
    rintro k hk (e | e | e)
    ·rcases hsub kb hfdk with e1 | e1
     ·rcases hk with e2 | e2
      ·exact hdn (by rw [<- e2,e];exact e1)
      ·exact hdn1 (by rw [<- e2,e];exact e1)
     ·omega
    ·omega
    ·rcases hsub V'.hb hfdh with e1 | e1
     ·rcases hk with e2 | e2
      ·exact hdn (by rw [<- e2,e];exact e1)
      ·exact hdn1 (by rw [<- e2,e];exact e1)
     ·omega
   have hd6:W6.heap[d]?=some o1:=hF6.same (hF.same hd (fun e=>e.elim hdn (fun e=>by omega))) (hn6 d (.inl rfl))
   have hl6:W6.heap[d+1]?=some o2:=hF6.same ho2 (hn6 (d+1) (.inr rfl));have hy6:YieldAt Fence.wide 0 Tryz.prog (d+1) #[] W6 fun e W'=>e=.returned (.bool true)/\∃V2,ResInv W1 kb d V K D f b n m m0 o2 n1 W' lo V2:=by
    refine YieldAt.mono (hgo W6 hFW hd6 hl6) ?_;rintro e W7 ⟨he,hf7,ho7⟩;refine ⟨he,_,hG6.frame hf7 (fun k hk e=>?_) (fun k e=>by omega),hlo0,by omega,hE2,hL2,hFW.step hf7 (fun k e=>.inl (.inr e)),hsub,ho7⟩
    rcases hsub k hk with e1 | e1
    ·exact hdn1 (e▸e1)
    ·omega
   obtain ⟨fn,tmps,assign,body,hy,hR⟩:=hy6;clear hK6 hm6 hf6 hs6 hK5 hF5 hd5 hG6 hFW hgo hF6 hK hF hsub ho2 hd6 hl6 hn6 hnx dd5 hbw5 hbs5 hbx5;go_upto_region 6 with fail
   refine (wpIn_wide (n:=1)).1 ?_;gi_wp2_with ((try refine ⟨hdd _,?_⟩);refine hR.mono ?_;clear hR;rintro e W7 ⟨rfl,V7,hI7⟩)
   go_wp2;go_roundg n1
   case measure=>have:=Hn.out;omega
   case rel=>exact ⟨lo,V7,hI7⟩
theorem eg_reset:∀args w,(callFunc 96 args).run Tryz.prog w=.ok (.enter 96 args) w:=enters_of Tryz.func96 (by kernel_rfl) rfl
theorem polled_resetG {kb ub wb sb:Nat}{S:KS}{V:KerV}{f:Slot}{b n m:Int}{A:Option Addr}{cap:Nat}{w:World}(h:KDG w kb S V)(hg:KGood S)(hk:S.K.held f=some (.untyped b n m))(hc:w.cell? ⟨ub,13,none⟩=some (.slice A 0 cap))(hun:¬V.fd kb ub)
 (hb:w.heap[wb]?=some (.cells #[.pointer (some ⟨kb,0,none⟩)] 34 (0,0))) (hs:w.heap[sb]?=some (.cells #[.int .i64 f.node,.int .i64 f.index] 71 (0,0))) (hwb:¬V.fd kb wb) (hsb:¬V.fd kb sb) :
 Calls Tryz.prog 57 #[.pointer (some ⟨ub,0,none⟩),.func (.func 96) #[] #[.pointer (some ⟨wb,0,none⟩),.pointer (some ⟨sb,0,none⟩)]] w fun e w'=>e=.returned (.int .i64 0)/\KGOut w kb V ⟨bt S.K f b n m (aw m []).1,S.D⟩ w':=by
 have hwlt:wb<w.heap.size:=(Array.getElem?_eq_some_iff.1 hb).1;have hslt:sb<w.heap.size:=(Array.getElem?_eq_some_iff.1 hs).1;have h2:=h.gl.lt;obtain ⟨u1,u2,u3,u4,u5,u6,u7⟩:=hg.untyped hk;refine (polled_goes 96 #[.pointer (some ⟨wb,0,none⟩),.pointer (some ⟨sb,0,none⟩)] ub A cap w (V.fd kb) (fun W1 W'=>∃V',KDG W' kb ⟨bt S.K f b n m (aw m []).1,S.D⟩ V'/\Fr w W' (V.fd kb)/\∀k,V'.fd kb k->V.fd kb k\/W1.heap.size<=k) eg_reset hc hun (fun k hk=>h.lt hk) ?_ ?_).mono ?_
 ·intro d o1 o2 W1 hf1 hwd hd hl hgo;have hn:∀k,w.heap.size<=k->¬V.fd kb k:=fun k hk e=>by have:=h.lt e;omega
  rw [show (#[.func (.yield (d+1)) #[] #[]]++#[.pointer (some ⟨wb,0,none⟩),.pointer (some ⟨sb,0,none⟩)]:Array Value)=#[.func (.yield (d+1)) #[] #[],.pointer (some ⟨wb,0,none⟩),.pointer (some ⟨sb,0,none⟩)] from rfl];refine (reset_goes kb wb sb d o1 o2 S.K S.D f b n m V W1 (h.frame hf1 (fun _ _=>id) (fun _=>False.elim)) hk u1 u3 u7 (hf1.same hb id) (hf1.same hs id) hwb hsb hd hl (hn _ hwd) (hn _ (by omega)) (by omega) (by omega) (by omega) hgo).mono ?_;rintro e W' ⟨he,V',hk,hf,hs,ho⟩;exact ⟨he,hf,ho,V',hk,(hf1.mono (fun _=>False.elim)).step hf (fun k hk=>hk.imp id (fun e=>by omega)),hs⟩
 ·rintro W1 W W' ⟨V',hk,hf,hs⟩ hfr;refine ⟨V',hk.frame hfr (fun k hk e=>?_) (fun k e=>by omega),hf.step hfr (fun k e=>.inr e.1),hs⟩;rcases hs k hk with e1 | e1
  ·have:=h.lt e1;omega
  ·omega
 ·rintro e w' ⟨he,W1,hf1,V',hk,hf,hs⟩;refine ⟨he,V',hk,hf,fun k hk=>(hs k hk).imp id (fun e=>Nat.le_trans hf1.size e)⟩
theorem KDG.kout {w w':World}{kb:Nat}{S:KS}{V:KerV}{K':Ker}(h:KDG w kb S V)(ho:KOut w kb V K' w'):KGOut w kb V ⟨K',S.D⟩ w':=by
 obtain ⟨V',h1,h2,h3,h4,h5⟩:=ho;refine h.out ⟨V',⟨h1,h2,?_,fun k hk e=>?_⟩,h4.mono (fun _ e=>.inl e),fun k hk=>?_⟩
 ·rw [h3];exact h4.owns h.kd.d (fun k hk=>h.kd.ap k hk)
 ·rw [h3] at hk;rcases h5 k e with e1 | e1
  ·exact h.kd.ap k hk e1
  ·have:=(h.kd.d.lt k hk).2;omega
 ·rcases hk with e | e
  ·exact (h5 k e).imp .inl id
  ·rw [h3] at e;exact .inl (.inr e)
theorem KDG.stay {w w':World}{kb:Nat}{S:KS}{V:KerV}(h:KDG w kb S V)(hf:Fr w w' (fun _=>False)):KGOut w kb V S w':=⟨V,h.frame hf (fun _ _=>id) (fun _=>False.elim),hf.mono (fun _=>False.elim),fun _ e=>.inl e⟩
theorem quiet_same1 {P:Program}{f:FuncId}{args:Array Value}{w:World}{n:Nat}{v:Value}
 (h:Calls P f args (w.drewN n) fun e w'=>e=.returned v/\w'=w.drewN n):Calls P f args (w.drewN n) fun e w''=>e=.returned v/\∃m,w''=w.drewN m:=
 h.mono fun _ _ ⟨he,hm⟩=>⟨he,n,hm⟩
theorem goK_ok (K:Ker):∀(l:List Int) (nd:Int) (t:Slot),goK K nd l=some t->okK K t.node t.index=true
 | [],_,_,h=>by cases h
 | [x],nd,t,h=>by
  simp only [goK] at h;split at h
  ·rename_i ho;cases h;exact ho
  ·cases h
 | x :: y :: r,nd,t,h=>by
  simp only [goK] at h;split at h
  ·cases hn:nodeK K ⟨nd,x⟩ with
   | none=>rw [hn] at h;cases h
   | some nd'=>rw [hn] at h;exact goK_ok K (y :: r) nd' t h
  ·cases h
theorem findK_ok {K:Ker}{root:Int}{l:List Int}{t:Slot}(h:ao K root l=some t):okK K t.node t.index=true:=by
 unfold ao at h;split at h
 ·cases h
 ·exact goK_ok K l root t h
theorem isObj_bits {ty bits:Int}(h:isObj ty bits=true):0<=bits/\bits<=10:=by
 simp only [isObj,Bool.and_eq_true,decide_eq_true_eq] at h;obtain ⟨⟨h0,h6⟩,h1,h2⟩:=h;have:ty=0\/ty=1\/ty=2\/ty=3\/ty=4\/ty=5:=by omega
 rcases this with rfl | rfl | rfl | rfl | rfl | rfl<;>simp [leastT,mostT] at h1 h2<;>omega
theorem row_ne {K:Ker}{root:Int}{l:List Int}{n:Nat}{t f:Slot}{k:KCap}(h:rowK K root l n=some (t,true))(hf:K.held f=some k)(i:Nat)(hi:i<n):(⟨t.node,t.index+(i:Int)⟩:Slot)≠f:=by
 unfold rowK at h;split at h
 ·cases h
 ·split at h
  ·injection h with h
   injection h with h1 h2
   subst h1;intro e;have hm:=List.all_eq_true.1 h2 ⟨_,_⟩ (by rw [br];exact List.mem_map.2 ⟨i,List.mem_range.2 hi,rfl⟩);rw [e,hf] at hm;cases hm
  ·cases h
theorem carve_from {w W:World}{V:KerV}{kb ub:Nat}{c:Cl}{av tv bv:Value}{th root:Int}{f t:Slot}{b n m:Int}{cnt g B:Nat}(h:CallAt w kb ub V c av tv bv th root)(hF:Fr w W (fun _=>False))(hu:0<=b/\b<=1024/\0<=m/\m<=1024/\0<=n/\n<=10)(hkids:∀x,V.ker.st f=some x->x.kids.length<=900000)
 (hk:V.ker.held f=some (.untyped b n m)) (hgk:¬V.fp kb g) (hown:W.ownsRow B 71 2 (.slice (some ⟨g,0,none⟩) cnt cnt) cnt (bf (br t cnt))) (hn1:1<=cnt) (hn8:cnt<=8) (hbits:0<=c.bits/\c.bits<=10)
 (hrow:∀i:Nat,i<cnt->(⟨t.node,t.index+(i:Int)⟩:Slot)≠f) {x:Int} {K:Ker} (hx:carveK V.ker f t c.ty c.bits root b n m cnt=(x,K)) :
 Calls Tryz.prog 64 #[.pointer (some ⟨ub,0,none⟩),.agg #[.int .i64 f.node,.int .i64 f.index],.slice (some ⟨g,0,none⟩) cnt cnt] W fun e w'=>e=.returned (.int .i64 x)/\KOut w kb V K w':=by
 obtain ⟨u1,u2,u3,u4,u5,u6⟩:=hu;have:=carve_any V kb ub c av tv bv th root f t b n m cnt g W (h.frame hF) hk (owns_mono hown (Nat.zero_le _)) hgk hn1 hn8 u1 u2 u3 u4 u5 u6 hbits.1 hbits.2 hkids hrow;rw [hx] at this;refine this.mono ?_;rintro e w' ⟨he,hK⟩;exact ⟨he,hK.of (hF.mono (fun _=>False.elim)) rfl (fun k hk=>.inl hk)⟩
theorem tretype_any (kb ub:Nat)(S:KS)(V0:KerV)(c:Cl)(av tv:Value)(th root:Int)(A:Option Addr)(cap:Nat)(w0:World)(h0:CallG w0 kb ub S V0 c av tv (.slice A 0 cap) th root):
 Calls Tryz.prog 34 #[.pointer (some ⟨ub,0,none⟩)] w0 (GotG w0 kb V0 (orTwoS (worked S) (retypeKB (worked S) root c []))):=by
 have hult:=h0.turn.lt;have ck':=h0.turn.ck;have hg0:=h0.good.worked;obtain ⟨S1,hS1⟩:∃S1,Hid (S1=worked S):=⟨_,rfl⟩;have hpo:=h0.polled ((Fr.refl w0 (fun _=>False)).alloc (.cells #[.pointer (some ⟨kb,0,none⟩)] 34)) (Nat.le_refl _) (heap_alloc_new _ _);rw [<- hS1.out] at hpo hg0 ⊢;obtain ⟨hgood,hD1,_⟩:=hg0;generalize hans:orTwoS S1 (retypeKB S1 root c [])=ans;have HA:Hid (orTwoS S1 (retypeKB S1 root c [])=ans):=hans;clear hans;go_enter Tryz.func34,Tryz.ntmps34
 go_wp2_with (first
  |(go_at_call 58;refine (workOff_any kb _).mono ?_;rintro e w' ⟨rfl,rfl⟩)
  |(go_at_call 57;refine hpo.mono ?_;rintro e w ⟨rfl,V,hG,hF0,hs0,_⟩;have cat1:=hG.turn.cat))
 have hs1:∀k,V.fd kb k->V0.fd kb k\/w0.heap.size<=k:=fun k hk=>(hs0 k hk).imp id (fun e=>by simp at e;omega)
 have hgot:∀x S2 W,KGOut w kb V S2 W->ans=(x,S2)->GotG w0 kb V0 ans (.returned (.tuple #[.int .i64 0,.int .i64 x])) W:=fun x S2 W ho e=>by subst e;exact ⟨.inl rfl,KGOut.join hF0 hs1 ho⟩
 have hgup:∀W,KGOut w kb V S1 W->ans=(2,S1)->GotG w0 kb V0 ans (gup 2) W:=fun W ho e=>by subst e;exact ⟨.inr rfl,KGOut.join hF0 hs1 ho⟩
 have hstay:∀W,Fr w W (fun _=>False)->KGOut w kb V S1 W:=fun W hW=>hG.kd.stay hW
 have hg:Glob w:=hG.kd.gl;have hok:RetypeOk V.ker:=by rw [hG.kd.kd.eq];exact hgood.retypeOk
 have hV:V.ker=S1.K:=hG.kd.kd.eq;have hD2:S1.D=[]:=hD1;have h:=hG.call;have HV:Hid (V.ker=S1.K):=hV;clear hpo hS1 h0 hF0 hs0 hs1 hV hD1 ck';refine h.find.mono ?_;rintro e W2 ⟨rfl,hF2⟩;clear cat1;cases hfi:ao V.ker root c.at_ with
 | none=>
  have ha:Hid (ans=(2,S1)):=by show _=_;rw [<- HA.out];rw [HV.out] at hfi;simp [retypeKB,hfi,orTwoS]
  clear HA;unfold au gup;go_wp2;exact ⟨rfl,hgup _ (hstay _ hF2) ha.out⟩
 | some f=>
  unfold au slotV;go_wp2_with fail
  generalize hW3:W2.alloc _=W3;have hf3:Fr W2 W3 (fun _=>False):=by rw [<- hW3];exact (Fr.refl _ _).alloc _
  have hbf:W3.heap[W2.heap.size]?=some (.cells #[.int .i64 f.node,.int .i64 f.index] 71 (0,0)):=by rw [<- hW3];exact heap_alloc_new _ _
  clear hW3;have hF3:=hF2.step hf3 (fun _=>False.elim);have l2:=hF2.size;have l3:W2.heap.size<W3.heap.size:=(Array.getElem?_eq_some_iff.1 hbf).1;have h3:=h.frame hF3;have c2:=h3.ker.ch;have s0:=aa (o:=0) hbf rfl;have s1:=aa (o:=1) hbf rfl;have hrun:=ar (h3.ker.frame ((Fr.refl W3 (fun _=>False)).drew) (fun _ _=>id)) f false;have hfa:=(Fr.refl W3 (fun _=>False)).alloc (.cells #[.int .i64 0,.int .i64 0,.int .i64 0] 76);have hrun2:=ar (h3.ker.frame hfa.drew (fun _ _=>id)) f false;simp only [Bool.false_eq_true,if_false] at hrun hrun2;have lk:=World.block_lt_of_cell? _ _ c2;obtain ⟨tf,x0,x1,x2,hta,hcase⟩:∃(tf:Bool) (x0 x1 x2:Int),(∀W,(Instr.typeAssert (capV (V.ker.held f)) 79 76 true).run Tryz.prog W=.ok (.tuple #[.agg #[.int .i64 x0,.int .i64 x1,.int .i64 x2],.bool tf]) W)/\
   ((tf=true/\V.ker.held f=some (.untyped x0 x1 x2))\/(tf=false/\∀b n m,V.ker.held f≠some (.untyped b n m))):=by
   cases hh:V.ker.held f with
   | none=>exact ⟨false,0,0,0,ta_nil_untyped,.inr ⟨rfl,fun _ _ _ e=>by cases e⟩⟩
   | some k=>
    cases hu:k.isU with
    | true=>
     cases k with
     | untyped b n m=>exact ⟨true,b,n,m,ta_untyped_untyped _,.inl ⟨rfl,rfl⟩⟩
     | _=>cases hu
    | false=>exact ⟨false,0,0,0,ta_untyped hu,.inr ⟨rfl,fun b n m e=>by cases e;cases hu⟩⟩
  generalize capV (V.ker.held f)=hv at hrun hrun2 hta;go_cut [7,8] (fun v7 v8 wx=>v8=.bool tf/\∃xb,v7=.pointer (some ⟨xb,0,none⟩)/\Fr W3 wx (fun _=>False)/\W3.heap.size<=xb/\wx.heap[xb]?=some (.cells #[.int .i64 x0,.int .i64 x1,.int .i64 x2] 76 (0,0)))
  case first=>
   go_region_held3 (fun w'=>w'.cell? ⟨kb,1024,none⟩=some (.map (some V.hb))/\w'.cell? ⟨W2.heap.size,0,none⟩=some (.int .i64 f.node)/\w'.cell? ⟨W2.heap.size,1,none⟩=some (.int .i64 f.index)) (go_keep) (fail)
   all_goals go_wp2
   all_goals go_meet
   all_goals exact ⟨rfl,W3.heap.size,rfl,((Fr.refl _ _).alloc _).drew,Nat.le_refl _,heap_alloc_new _ _⟩
  case rest=>
   obtain ⟨rfl,xb,rfl,hf4,_,_⟩:=hcut;clear hrun hrun2 hta c2 s0 s1 hfa lk h3;have hF4:=hF3.step hf4 (fun _=>False.elim);have hbf4:=hf4.same hbf id;have h4:=h.frame hF4;rcases hcase with ⟨rfl,hk⟩ | ⟨rfl,hk⟩
   ·have hg4:Glob wc:=hg.fr0 hF4;have t4:=h4.turn.cty;have t5:=h4.turn.cbits;have t6:=h4.turn.ccount;have hio:∀W,Glob W->Calls Tryz.prog 60 #[.int .i64 c.ty,.int .i64 c.bits] W fun e w'=>e=.returned (.bool (isObj c.ty c.bits))/\w'=W:=fun W hW=>isObject_any c.ty c.bits W hW
    go_upto_region 9 with fail
    go_cut [69] (fun v69 wx=>v69=.bool (!decide (isObj c.ty c.bits=true/\1<=c.count/\c.count<=8))/\Fr wc wx (fun _=>False))
    case first=>
     cases hob:isObj c.ty c.bits with
     | false=>
      simp only [hob] at hio;go_quiet ((go_at_call 60;exact quiet_same1 (hio _ (by exact ⟨hg4.n0,hg4.n1,hg4.bits⟩))))
      all_goals go_wp2
      all_goals go_meet
      all_goals exact ⟨by simp [hob],(Fr.refl _ _).drewN _⟩
     | true=>
      simp only [hob] at hio;by_cases hc1:c.count<1
      ·have hc2:decide (c.count<1)=true:=decide_eq_true hc1;go_quiet ((go_at_call 60;exact quiet_same1 (hio _ (by exact ⟨hg4.n0,hg4.n1,hg4.bits⟩))))
       all_goals go_wp2
       all_goals go_meet
       all_goals exact ⟨by simp [hob];omega,(Fr.refl _ _).drewN _⟩
      ·have hc2:decide (c.count<1)=false:=decide_eq_false hc1;by_cases hc3:8<c.count
       ·have hc4:decide (8<c.count)=true:=decide_eq_true hc3;go_quiet ((go_at_call 60;exact quiet_same1 (hio _ (by exact ⟨hg4.n0,hg4.n1,hg4.bits⟩))))
        all_goals go_wp2
        all_goals go_meet
        all_goals exact ⟨by simp [hob];omega,(Fr.refl _ _).drewN _⟩
       ·have hc4:decide (8<c.count)=false:=decide_eq_false hc3;go_quiet ((go_at_call 60;exact quiet_same1 (hio _ (by exact ⟨hg4.n0,hg4.n1,hg4.bits⟩))))
        all_goals go_wp2
        all_goals go_meet
        all_goals exact ⟨by simp [hob];omega,(Fr.refl _ _).drewN _⟩
    case rest=>
     obtain ⟨rfl,hf5⟩:=hcut;have hF5:=hF4.step hf5 (fun _=>False.elim);have hbf5:=hf5.same hbf4 id;have h5:=h.frame hF5;clear t4 t5 t6 hio hg4 h4;by_cases hgood2:isObj c.ty c.bits=true/\1<=c.count/\c.count<=8
     ·have hdec:(!decide (isObj c.ty c.bits=true/\1<=c.count/\c.count<=8))=false:=by rw [decide_eq_true hgood2];rfl
      rw [hdec];clear hdec;obtain ⟨hob,hc1,hc8⟩:=hgood2;obtain ⟨cnt,hcnt⟩:=Int.eq_ofNat_of_zero_le (show 0<=c.count by omega);have hn1:1<=cnt:=by omega
      have hn8:cnt<=8:=by omega
      have hix:∀t,ao V.ker root c.to=some t->t.index<=1000000:=fun t ht=>by
       have h1:=findK_ok ht;simp [okK] at h1;have:=hok.slots t.node;omega
      have Hans:Hid (ans=(match rowK V.ker root c.to cnt with
       | none=>(2,S1)
       | some (_,false)=>(4,S1)
       | some (t,true)=>if ax S1.K f then carveKS S1 f t c.ty c.bits root x0 x1 x2 cnt else carveKS {S1 with K:=bt S1.K f x0 x1 x2 (aw x2 []).1} f t c.ty c.bits root x0 x1 (aw x2 []).1 cnt)):=by
       show _=_;rw [<- HA.out];rw [HV.out] at hfi hk ⊢;unfold retypeKB;rw [hfi];dsimp only;rw [hk];dsimp only;have hr:=(resetM_nil (hgood.untyped hk).2.2.2.1 (hgood.untyped hk).2.2.1).1;rw [if_pos ⟨hob,hc1,hc8⟩,hcnt,Int.toNat_natCast];rcases rowK S1.K root c.to cnt with _ | ⟨s,_ | _⟩
       ·rfl
       ·rfl
       ·dsimp only;rw [if_pos hr];split<;>rfl
      have t3:=h5.turn.cto;have t6:=h5.turn.ccount;rw [hcnt] at t6;have hfr:=fun W (hW:CallAt W kb ub V c av tv (.slice A 0 cap) th root)=>findRow_any V kb ub c av tv (.slice A 0 cap) th root cnt W hW hn1 hn8 hix
      have h6:=h5.frame ((Fr.refl wc (fun _=>False)).drew);have hbits:=isObj_bits hob;clear hob hc1 hc8 HA hix;cases hrow:rowK V.ker root c.to cnt with
      | none=>
       have ha:Hid (ans=(2,S1)):=by show _=_;rw [Hans.out,hrow]
       clear Hans;go_upto_region 11 with fail
       go_region_with (go_at_call 61;refine (hfr _ h6).mono ?_;rintro e W7 ⟨hf7,he⟩;rw [hrow] at he;dsimp only at he;subst he;unfold gup;refine panicOut (by exact ⟨rfl,hgup _ (hstay _ ((hF5.drew).step hf7 (fun _=>False.elim))) ha.out⟩) W7 ?_)
       all_goals trivial
      | some p=>
       obtain ⟨t,bb⟩:=p;cases bb with
       | false=>
        have ha:Hid (ans=(4,S1)):=by show _=_;rw [Hans.out,hrow]
        clear Hans;go_upto_region 11 with fail
        go_region_held3 (fun w'=>w'.cell? ⟨ub,3,none⟩=some tv/\w'.cell? ⟨ub,6,none⟩=some (.int .i64 (cnt:Int))) (go_keep)
         ((go_at_call 61;refine (hfr _ h6).mono ?_;rintro e W7 ⟨hf7,he⟩;rw [hrow] at he;dsimp only at he;subst he;have g1:=(h6.frame hf7).turn.cto;have g2:=(h6.frame hf7).turn.ccount;rw [hcnt] at g2))
        have hF7:=(hF5.drew).step hf7 (fun _=>False.elim);clear g1 g2 t3 t6 hfr h6;go_wp2;go_ret2;exact hgot _ _ _ (hstay _ hF7) ha.out
       | true=>
        have ha:Hid (ans=if ax S1.K f then carveKS S1 f t c.ty c.bits root x0 x1 x2 cnt else carveKS {S1 with K:=bt S1.K f x0 x1 x2 (aw x2 []).1} f t c.ty c.bits root x0 x1 (aw x2 []).1 cnt):=by show _=_;rw [Hans.out,hrow]
        clear Hans;go_upto_region 11 with fail
        go_region_held3 (fun w'=>w'.cell? ⟨ub,3,none⟩=some tv/\w'.cell? ⟨ub,6,none⟩=some (.int .i64 (cnt:Int))) (go_keep)
         ((go_at_call 61;refine (hfr _ h6).mono ?_;rintro e W7 ⟨hf7,he⟩;rw [hrow] at he;dsimp only at he;obtain ⟨gb,rfl,hown⟩:=he;have g1:=(h6.frame hf7).turn.cto;have g2:=(h6.frame hf7).turn.ccount;rw [hcnt] at g2))
        have hF7:=(hF5.drew).step hf7 (fun _=>False.elim);have hbf7:=hf7.same (w:=wc.drew) hbf5 id;clear g1 g2 t3 t6 hfr h6;have hB:w.heap.size<=wc.drew.heap.size:=hF5.size;have hgb:wc.drew.heap.size<=gb:=(hown.lt gb rfl).1;have hgk:¬V.fd kb gb:=fun e=>by have:=hG.kd.lt e;omega
        have hrn:=row_ne hrow hk;have hun:=hgood.untyped (by rw [<- HV.out];exact hk);have hun6:0<=x0/\x0<=1024/\0<=x2/\x2<=1024/\0<=x1/\x1<=10:=⟨hun.1,hun.2.1,hun.2.2.1,hun.2.2.2.1,hun.2.2.2.2.1,hun.2.2.2.2.2.1⟩;have hkids9:∀x,V.ker.st f=some x->x.kids.length<=900000:=hok.kids f;have h7:=h.ker.frame hF7 (fun _ _=>id);have hd7:=(Fr.refl W7 (fun _=>False)).drew;have hch:=hasChildren_any V kb f W7.drew (h7.frame hd7 (fun _ _=>id));have ct:=h7.ct;have s0:=aa (o:=0) hbf7 rfl;have s1:=aa (o:=1) hbf7 rfl;clear hrow hB hok;go_upto_region 14 with fail
        cases hkids:ax V.ker f with
        | true=>
         rw [hkids] at hch;have hkS:ax S1.K f=true:=by rw [<- HV.out];exact hkids
         obtain ⟨x9,K9,hx9⟩:∃x9 K9,carveK V.ker f t c.ty c.bits root x0 x1 x2 cnt=(x9,K9):=⟨_,_,rfl⟩;have ha2:Hid (ans=(x9,⟨K9,S1.D⟩)):=by
          show _=_;rw [ha.out,if_pos hkS,carveKS,<- HV.out,hx9]
         have hcv:=fun W (hW:Fr W7 W (fun _=>False))=>carve_from h (hF7.step hW (fun _=>False.elim)) hun6 hkids9 hk (fun e=>hgk (.inl e)) (hW.owns hown (fun _ _=>id)) hn1 hn8 hbits hrn hx9
         clear ha hx9 hkS;go_region_held3 (fun w'=>w'.cell? ⟨kb,1025,none⟩=some (.map (some V.tb))/\w'.cell? ⟨W2.heap.size,0,none⟩=some (.int .i64 f.node)/\w'.cell? ⟨W2.heap.size,1,none⟩=some (.int .i64 f.index)) (go_keep)
          ((go_at_call 62;refine hch.mono ?_;rintro e W9 ⟨rfl,hf9⟩;have hf9':=hd7.step hf9 (fun _=>False.elim);have g0:=(h7.frame hf9' (fun _ _=>id)).ct;have g1:=aa (o:=0) (hf9'.same hbf7 id) rfl;have g2:=aa (o:=1) (hf9'.same hbf7 id) rfl))
         clear hch ct s0 s1 g0;go_wp2_with (go_at_call 64;refine (hcv _ hf9').mono ?_;rintro e W10 ⟨rfl,hK10⟩)
         go_ret2;exact hgot _ _ _ (hG.kd.kout hK10) ha2.out
        | false=>
         rw [hkids] at hch;have hkS:ax S1.K f=false:=by rw [<- HV.out];exact hkids
         have hkK:S1.K.held f=some (.untyped x0 x1 x2):=by rw [<- HV.out];exact hk
         have hrm:=resetM_nil hun6.2.2.2.1 hun6.2.2.1;obtain ⟨x9,K9,hx9⟩:∃x9 K9,carveK (bt S1.K f x0 x1 x2 (aw x2 []).1) f t c.ty c.bits root x0 x1 (aw x2 []).1 cnt=(x9,K9):=⟨_,_,rfl⟩;have ha2:Hid (ans=(x9,⟨K9,S1.D⟩)):=by
          show _=_;rw [ha.out,if_neg (by rw [hkS];simp),carveKS,hx9]
         have hgd2:=hgood.reset hkK hkS hrm.2.1 hrm.2.2;have hpr:∀W9,Fr W7 W9 (fun _=>False)->Calls Tryz.prog 57 #[.pointer (some ⟨ub,0,none⟩),.func (.func 96) #[] #[.pointer (some ⟨W9.heap.size,0,none⟩),.pointer (some ⟨W9.heap.size+1,0,none⟩)]] ((W9.alloc (.cells #[.pointer (some ⟨kb,0,none⟩)] 34)).alloc (.cells #[.int .i64 f.node,.int .i64 f.index] 71)) fun e W10=>e=.returned (.int .i64 0)/\W10.cell? ⟨W2.heap.size,0,none⟩=some (.int .i64 f.node)/\W10.cell? ⟨W2.heap.size,1,none⟩=some (.int .i64 f.index)/\W2.heap.size<W10.heap.size/\
          Calls Tryz.prog 64 #[.pointer (some ⟨ub,0,none⟩),.agg #[.int .i64 f.node,.int .i64 f.index],.slice (some ⟨gb,0,none⟩) cnt cnt] W10 fun e w'=>e=.returned (.int .i64 x9)/\KGOut w kb V ⟨K9,S1.D⟩ w':=by
          intro W9 hf9;obtain ⟨hfb,hsz,hb1,hb2⟩:=box_two (w:=W9) (a:=.cells #[.pointer (some ⟨kb,0,none⟩)] 34) (b:=.cells #[.int .i64 f.node,.int .i64 f.index] 71) rfl;have hF8:Fr W7 ((W9.alloc (.cells #[.pointer (some ⟨kb,0,none⟩)] 34)).alloc (.cells #[.int .i64 f.node,.int .i64 f.index] 71)) (fun _=>False):=hf9.step hfb (fun _=>False.elim);have hF9:=hF7.step hF8 (fun _=>False.elim);have hG9:=hG.frame hF9;have hsz9:w.heap.size<=W9.heap.size:=(hF7.step hf9 (fun _=>False.elim)).size;have hbig:∀k,w.heap.size<=k->¬V.fd kb k:=fun k hk e=>by have:=hG.kd.lt e;omega
          generalize (W9.alloc (.cells #[.pointer (some ⟨kb,0,none⟩)] 34)).alloc (.cells #[.int .i64 f.node,.int .i64 f.index] 71)=W8 at *
          refine (polled_resetG hG9.kd hgood hkK hG9.turn.cbv hG9.ub hb1 hb2 (hbig _ hsz9) (hbig _ (by omega))).mono ?_;rintro e W10 ⟨he,V10,k10,f10,s10⟩;have hbf8:=f10.same (hF8.same hbf7 id) (hbig _ l2);refine ⟨he,aa (o:=0) hbf8 rfl,aa (o:=1) hbf8 rfl,(Array.getElem?_eq_some_iff.1 hbf8).1,?_⟩;have hG10:=hG9.past k10 hgd2 f10 s10;have hV10:V10.ker=bt S1.K f x0 x1 x2 (aw x2 []).1:=k10.kd.eq;have hg10:¬V10.fp kb gb:=fun e=>by
           rcases s10 gb (.inl e) with e1 | e1
           ·exact hgk e1
           ·have:=(hF8.owns hown (fun _ _=>id)).lt gb rfl;omega
          have hgk2:∀k,(Value.slice (some ⟨gb,0,none⟩) cnt cnt).ownBlock=some k->¬V.fd kb k:=fun k hk e=>by
           have h1:gb=k:=by simpa [Value.ownBlock] using hk
           rw [h1] at hgk;exact hgk e
          refine (carve_from (V:=V10) (x:=x9) (K:=K9) (B:=wc.drew.heap.size) (f:=f) (t:=t) (b:=x0) (n:=x1) (m:=(aw x2 []).1) hG10.call (Fr.refl W10 _) ⟨hun6.1,hun6.2.1,hrm.2.1,by omega,hun6.2.2.2.2.1,hun6.2.2.2.2.2⟩ ?_ (by rw [hV10];simp [bt,upd]) hg10 (f10.owns (hF8.owns hown (fun _ _=>id)) hgk2) hn1 hn8 hbits hrn (by rw [hV10];exact hx9)).mono ?_
          ·intro x hx;rw [hV10] at hx;exact hkids9 x (by rw [HV.out];exact hx)
          ·rintro e w' ⟨he,hK10⟩;exact ⟨he,KGOut.of hF9 (KGOut.join f10 s10 (k10.kout hK10))⟩
         clear ha hx9 hkS hgd2 hkK hrm;go_region_held3 (fun w'=>w'.cell? ⟨kb,1025,none⟩=some (.map (some V.tb))/\w'.cell? ⟨W2.heap.size,0,none⟩=some (.int .i64 f.node)/\w'.cell? ⟨W2.heap.size,1,none⟩=some (.int .i64 f.index)) (go_keep)
          ((go_at_call 62;refine hch.mono ?_;rintro e W9 ⟨rfl,hf9⟩;have hf9':=hd7.step hf9 (fun _=>False.elim);have g0:=(h7.frame hf9' (fun _ _=>id)).ct;have g1:=aa (o:=0) (hf9'.same hbf7 id) rfl;have g2:=aa (o:=1) (hf9'.same hbf7 id) rfl))
         clear hch ct s0 s1 g0;go_wp2_with (first
          |(go_at_call 63;refine (reset_any kb f _).mono ?_;rintro e w' ⟨rfl,rfl⟩)
          |(go_at_call 57;refine (hpr _ hf9').mono ?_;rintro e W10 ⟨rfl,g3,g4,g5,hcv⟩)
          |(go_at_call 64;refine hcv.mono ?_;rintro e W12 ⟨rfl,hK12⟩))
         go_ret2;exact hgot _ _ _ hK12 ha2.out
     ·have hdec:(!decide (isObj c.ty c.bits=true/\1<=c.count/\c.count<=8))=true:=by rw [decide_eq_false hgood2];rfl
      rw [hdec];clear hdec;have ha:Hid (ans=(7,S1)):=by
       show _=_;rw [<- HA.out];rw [HV.out] at hfi hk;unfold retypeKB;rw [hfi];dsimp only;rw [hk];dsimp only;rw [if_neg hgood2];rfl
      clear HA hgood2;go_wp2;go_ret2;exact hgot _ _ _ (hstay _ hF5) ha.out
   ·have ha:Hid (ans=(3,S1)):=by
     show _=_;rw [<- HA.out];rw [HV.out] at hfi hk;unfold retypeKB;rw [hfi];dsimp only;cases hh:S1.K.held f with
     | none=>rfl
     | some k=>
      cases k with
      | untyped b n m=>exact absurd hh (hk b n m)
      | _=>rfl
    clear HA hk;go_wp2;go_ret2;exact hgot _ _ _ (hstay _ hF4) ha.out
def methV:Value:=.agg #[.nilFunc,.func (.func 34) #[] #[],.func (.func 35) #[] #[],.func (.func 36) #[] #[],.func (.func 37) #[] #[],.func (.func 38) #[] #[],
 .func (.func 39) #[] #[],.func (.func 40) #[] #[],.func (.func 41) #[] #[],.func (.func 42) #[] #[],.func (.func 43) #[] #[],.func (.func 44) #[] #[]]
theorem methods_any (w:World):Calls Tryz.prog 22 #[] w fun e w'=>e=.returned methV/\Fr w w' (fun _=>False):=by
 go_enter Tryz.func22,Tryz.ntmps22
 go_wp2;refine bodyPost_ret (v:=methV) (by simp [results,Tryz.results22,go_sem,methV]) rfl ⟨rfl,(Fr.refl _ _).alloc _⟩
def doArgs (kb:Nat)(th:Int)(c:Cl)(av tv bv:Value):Array Value:=
 #[.pointer (some ⟨kb,0,none⟩),.int .i64 th,.agg (c.cells av tv),bv]
theorem fr_do (w:World)(c:Cl)(av tv:Value):Fr w (((w.alloc (.cells #[.int .i64 c.kind,av,tv,.int .i64 c.ty,.int .i64 c.bits,.int .i64 c.count,.int .i64 c.rights,.int .i64 c.badge,.int .i64 c.value,.int .i64 c.offset] 41)).alloc (.cells #[.int .i64 0] 3)).alloc (.cells #[.int .i64 0] 36)) (fun _=>False):=
 (((Fr.refl _ _).alloc _).alloc _).alloc _
theorem do_lt {kb n:Nat}(h:kb<n):kb<n+1/\kb<n+1+1:=by omega
theorem do_none (V:KerV)(kb:Nat)(c:Cl)(av tv bv:Value)(th:Int)(w:World)(h:KerAt w kb V)(ht:V.ker.thr th=none):
 Calls Tryz.prog 11 (doArgs kb th c av tv bv) w fun e w'=>e=.returned (.tuple #[.int .i64 0,.int .i64 1])/\Fr w w' (fun _=>False):=by
 have hf0:=fr_do w c av tv;have hrun:=look_thr (h.frame hf0 (fun _ _=>id)) th;have cr:=h.cr;have hlt:=World.block_lt_of_cell? _ _ cr;obtain ⟨hlt1,hlt2⟩:=do_lt hlt;rw [ht] at hrun;dsimp only [Option.isSome] at hrun;unfold doArgs Cl.cells;go_enter Tryz.func11,Tryz.ntmps11
 go_wp2;refine bodyPost_ret (v:=.tuple #[.int .i64 0,.int .i64 1]) (by simp [results,Tryz.results11,go_sem]) rfl ⟨rfl,?_⟩;exact ((((Fr.refl _ _).alloc _).alloc _).alloc _).alloc _
theorem do_still (V:KerV)(kb:Nat)(c:Cl)(av tv bv:Value)(th:Int)(w:World)(h:KerAt w kb V){t:Thd}(ht:V.ker.thr th=some t)(hs:t.state≠1):
 Calls Tryz.prog 11 (doArgs kb th c av tv bv) w fun e w'=>e=.returned (.tuple #[.int .i64 0,.int .i64 1])/\Fr w w' (fun _=>False):=by
 have hf0:=fr_do w c av tv;have hrun:=look_thr (h.frame hf0 (fun _ _=>id)) th;have cr:=h.cr;have hlt:=World.block_lt_of_cell? _ _ cr;obtain ⟨hlt1,hlt2⟩:=do_lt hlt;rw [ht] at hrun;dsimp only [Option.isSome] at hrun;have hs1:decide (t.state=1)=false:=decide_eq_false hs;unfold doArgs Cl.cells;go_enter Tryz.func11,Tryz.ntmps11
 go_wp2;refine bodyPost_ret (v:=.tuple #[.int .i64 0,.int .i64 1]) (by simp [results,Tryz.results11,go_sem]) rfl ⟨rfl,?_⟩;exact ((((Fr.refl _ _).alloc _).alloc _).alloc _).alloc _
theorem do_low (V:KerV)(kb:Nat)(c:Cl)(av tv bv:Value)(th:Int)(w:World)(h:KerAt w kb V){t:Thd}(ht:V.ker.thr th=some t)(hs:t.state=1)(hk:c.kind<1):
 Calls Tryz.prog 11 (doArgs kb th c av tv bv) w fun e w'=>e=.returned (.tuple #[.int .i64 0,.int .i64 7])/\Fr w w' (fun _=>False):=by
 have hf0:=fr_do w c av tv;have hrun:=look_thr (h.frame hf0 (fun _ _=>id)) th;have cr:=h.cr;have hlt:=World.block_lt_of_cell? _ _ cr;obtain ⟨hlt1,hlt2⟩:=do_lt hlt;rw [ht] at hrun;dsimp only [Option.isSome] at hrun;have hk1:decide (c.kind<1)=true:=decide_eq_true hk;unfold doArgs Cl.cells;go_enter Tryz.func11,Tryz.ntmps11
 go_wp2;refine bodyPost_ret (v:=.tuple #[.int .i64 0,.int .i64 7]) (by simp [results,Tryz.results11,go_sem]) rfl ⟨rfl,?_⟩;exact ((((Fr.refl _ _).alloc _).alloc _).alloc _).alloc _
theorem do_high (V:KerV)(kb:Nat)(c:Cl)(av tv bv:Value)(th:Int)(w:World)(h:KerAt w kb V){t:Thd}(ht:V.ker.thr th=some t)(hs:t.state=1)(hk:12<=c.kind):
 Calls Tryz.prog 11 (doArgs kb th c av tv bv) w fun e w'=>e=.returned (.tuple #[.int .i64 0,.int .i64 7])/\Fr w w' (fun _=>False):=by
 have hf0:=fr_do w c av tv;have hrun:=look_thr (h.frame hf0 (fun _ _=>id)) th;have cr:=h.cr;have hlt:=World.block_lt_of_cell? _ _ cr;obtain ⟨hlt1,hlt2⟩:=do_lt hlt;rw [ht] at hrun;dsimp only [Option.isSome] at hrun;have hk1:decide (c.kind<1)=false:=decide_eq_false (by omega);have hk2:decide (12<=c.kind)=true:=decide_eq_true hk;unfold doArgs Cl.cells;go_enter Tryz.func11,Tryz.ntmps11
 go_wp2;refine bodyPost_ret (v:=.tuple #[.int .i64 0,.int .i64 7]) (by simp [results,Tryz.results11,go_sem]) rfl ⟨rfl,?_⟩;exact ((((Fr.refl _ _).alloc _).alloc _).alloc _).alloc _
end Go.Proofs.YtdpjgflemddekaaGreatDoor
