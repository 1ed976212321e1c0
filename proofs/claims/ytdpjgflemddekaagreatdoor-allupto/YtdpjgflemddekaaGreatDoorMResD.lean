/- The code: reset, gone through to its end or left behind a step. -/
import Derived.Test.YtdpjgflemddekaaGreatDoorMIterD
import Derived.Test.YtdpjgflemddekaaGreatDoorMResB
set_option maxRecDepth 100000
set_option maxHeartbeats 4000000
namespace Go.Proofs.YtdpjgflemddekaaGreatDoor
open Go.RowKit Go.Shelf
attribute [local go_sem] Oper.semAt_some
structure ResX (W1:World)(kb ub rb g0 d:Nat)(c:Cl)(av tv:Value)(th root:Int)(V:KerV)(K:Ker)(D:List (Int×Int))(f:Slot)(b n m:Int)(y:Int×List Bool×Bool)(o2:Obj)(k:Nat)(wr:World)(mc:Int)(V':KerV)(bs:List Bool):Prop where
 kd:KDG wr kb ⟨bt K f b n m mc,D⟩ V'
 ge:0<=mc
 le:mc<=m
 ends:Ends dwn low k mc
 left:aj dwn low k mc bs=y
 fr:Fr W1 wr (fun k=>V.fd kb k\/k=d+1\/k=ub\/k=rb)
 sub:∀k,V'.fd kb k->V.fd kb k\/W1.heap.size<=k
 o2:wr.heap[d+1]?=some o2
 tb:TB wr ub kb g0 c av tv th root bs
 rb:∃v,wr.heap[rb]?=some (.cells #[.int .i64 v] 36 (0,0))
structure ResE (W1:World)(kb ub rb g0 d:Nat)(c:Cl)(av tv:Value)(th root:Int)(V:KerV)(K:Ker)(D:List (Int×Int))(f:Slot)(b n m:Int)(y:Int×List Bool×Bool)(o2 o3:Obj)(W':World):Prop where
 ex:∃V',KDG W' kb ⟨bt K f b n m y.1,D⟩ V'/\∀k,V'.fd kb k->V.fd kb k\/W1.heap.size<=k
 fr:Fr W1 W' (fun k=>V.fd kb k\/k=d+1\/k=ub\/k=rb)
 tb:TB W' ub kb g0 c av tv th root y.2.1
 o:W'.heap[d+1]?=some (if y.2.2 then o2 else o3)
 rb:∃v,W'.heap[rb]?=some (.cells #[.int .i64 v] 36 (0,0))/\(y.2.2=false->v=8)
theorem reset_asks (kb wb sb ub rb g0 d:Nat)(c:Cl)(av tv:Value)(th root:Int)(bs:List Bool)(o1 o2 o3:Obj)(K:Ker)(D:List (Int×Int))(f:Slot)(b n m:Int)(V:KerV)(W1:World)(h:KDG W1 kb ⟨K,D⟩ V)(hk:K.held f=some (.untyped b n m))(hb0:0<=b)(hm0:0<=m)(hbm:b+m<=1024)
 (hb:W1.heap[wb]?=some (.cells #[.pointer (some ⟨kb,0,none⟩)] 34 (0,0))) (hs:W1.heap[sb]?=some (.cells #[.int .i64 f.node,.int .i64 f.index] 71 (0,0))) (hA:Far W1 kb ub rb g0 d wb V) (hAs:Far W1 kb ub rb g0 d sb V)
 (hT:TB W1 ub kb g0 c av tv th root bs) (hd:W1.heap[d]?=some o1) (hl:W1.heap[d+1]?=some o2) (hrb:∃v,W1.heap[rb]?=some (.cells #[.int .i64 v] 36 (0,0)))
 (hgo:Asks Fence.wide 0 Tryz.prog d o1 o2 o3 (PI W1 (V.fd kb) d ub rb kb g0 c av tv th root) (PB ub rb kb g0 c av tv th root)) :
 CallsIn Fence.wide 1 Tryz.prog 96 #[.func (.yield (d+1)) #[] #[],.pointer (some ⟨wb,0,none⟩),.pointer (some ⟨sb,0,none⟩)] W1 fun e W'=>(∃v,e=.returned v)/\ResE W1 kb ub rb g0 d c av tv th root V K D f b n m (aw m bs) o2 o3 W':=by
 have hwb:=hA.nwb;have hsb:=hAs.nwb;have hdn:=hA.nd;have hdn1:=hA.nd1;have hrl:=hA.rl;have hul:=hA.ul;have hud:=hA.ud;have nwb:¬(V.fd kb wb\/wb=d+1\/wb=ub\/wb=rb):=by
  rintro (e | e | e | e)
  ·exact hA.nwb e
  ·exact hA.wd e
  ·exact hA.wu e
  ·exact hA.wr e
 have nsb:¬(V.fd kb sb\/sb=d+1\/sb=ub\/sb=rb):=by
  rintro (e | e | e | e)
  ·exact hAs.nwb e
  ·exact hAs.wd e
  ·exact hAs.wu e
  ·exact hAs.wr e
 have nd:¬(V.fd kb d\/d=d+1\/d=ub\/d=rb):=by
  rintro (e | e | e | e)
  ·exact hA.nd e
  ·omega
  ·exact hA.ud.1 e.symm
  ·omega
 have hdd:∀k:Nat,(Fence.wide.depth.isSome=true->1<=k):=fun k h=>by cases h
 have hlt1:d+1<W1.heap.size:=(Array.getElem?_eq_some_iff.1 hl).1;have hwlt:wb<W1.heap.size:=(Array.getElem?_eq_some_iff.1 hb).1;have hslt:sb<W1.heap.size:=(Array.getElem?_eq_some_iff.1 hs).1;refine callsIn_wide.2 ?_;obtain ⟨y,hm0'⟩:∃y,Hid (y=aw m bs):=⟨_,rfl⟩;rw [<- hm0'.out];go_enter Tryz.func96,Tryz.ntmps96
 go_wp2;go_loopg [23] 100 (fun k _ wr=>∃mc V' bs',ResX W1 kb ub rb g0 d c av tv th root V K D f b n m y o2 k wr mc V' bs')
 case atStart=>exact ⟨m,V,bs,by rw [resetK_same hk];exact h,hm0,Int.le_refl _,reset_endsK 100 m (by omega),hm0'.out.symm,Fr.refl _ _,fun k hk=>.inl hk,hl,hT,hrb⟩
 case round=>
  obtain ⟨mc,V',bs',hI⟩:=hrel;obtain ⟨hK,hge,hle,hE,hL,hF,hsub,ho2,hTB,hRB⟩:=hI;have hbw:=hF.same hb nwb;have hbs:=hF.same hs nsb;have c0:=aa (o:=0) hbw rfl;have c1:=hK.kd.ker.ch;have s0:=aa (o:=0) hbs rfl;have s1:=aa (o:=1) hbs rfl;have l0:=World.block_lt_of_cell? _ _ c0;have l1:=World.block_lt_of_cell? _ _ c1;have l2:=World.block_lt_of_cell? _ _ s0;have hf2:=(Fr.refl wr (fun _=>False)).alloc (.cells #[.int .i64 0,.int .i64 0,.int .i64 0] 76);have hhk:V'.ker.held f=some (.untyped b n mc):=by rw [hK.kd.eq];simp [bt,upd]
  have hrun:=ar (hK.kd.ker.frame ((Fr.refl wr (fun _=>False)).drew) (fun _ _=>id)) f false;have hrun2:=ar (hK.kd.ker.frame hf2.drew (fun _ _=>id)) f false;simp only [Bool.false_eq_true,if_false,hhk,capV,KCap.val] at hrun hrun2;have hta:=ta_untyped_untyped (.agg #[.int .i64 b,.int .i64 n,.int .i64 mc]);go_upto_region 0 with fail
  go_cut [4,5] (fun v4 v5 wx=>v5=.bool true/\v4=.pointer (some ⟨wr.heap.size,0,none⟩)/\Fr wr wx (fun _=>False)/\wx.heap[wr.heap.size]?=some (.cells #[.int .i64 b,.int .i64 n,.int .i64 mc] 76 (0,0)))
  case first=>
   go_region_held3 (fun w'=>w'.cell? ⟨wb,0,none⟩=some (.pointer (some ⟨kb,0,none⟩))/\w'.cell? ⟨kb,1024,none⟩=some (.map (some V'.hb))/\w'.cell? ⟨sb,0,none⟩=some (.int .i64 f.node)/\w'.cell? ⟨sb,1,none⟩=some (.int .i64 f.index)) (go_keep) (fail)
   all_goals go_wp2
   all_goals go_meet
   all_goals exact ⟨rfl,rfl,((Fr.refl _ _).alloc _).drew,heap_alloc_new _ _⟩
  case rest=>
  obtain ⟨rfl,rfl,hf3,hbx⟩:=hcut;obtain ⟨W3,hWW⟩:∃W3,W3=wc:=⟨wc,rfl⟩;subst hWW;clear hrun hrun2 hta c0 c1 s0 s1 hf2;have hF3:Fr W1 W3 (fun k=>V.fd kb k\/k=d+1\/k=ub\/k=rb):=hF.step hf3 (fun _=>False.elim);have hK3:=hK.frame hf3 (fun _ _=>id) (fun _=>False.elim);have x0:=aa (o:=0) hbx rfl;have x1:=aa (o:=1) hbx rfl;have x2:=aa (o:=2) hbx rfl;by_cases hz:mc=0
  ·have hfin:Hid (y=(mc,bs',true)):=by
    show _=_;rw [<- hL];cases gk with
    | zero=>rfl
    | succ k=>simp [aj,low,hz]
   subst hz;clear hE hL hbx hdd;go_wp2;refine bodyPost_ret (v:=.tuple #[]) (by simp [results,Tryz.results96,go_sem]) rfl ⟨⟨_,rfl⟩,?_⟩;rw [hfin.out];obtain ⟨v,hv⟩:=hRB;exact ⟨⟨V',hK3,hsub⟩,hF3,hTB.frame hf3 id id,hf3.same ho2 id,v,hf3.same hv id,fun h=>by cases h⟩
  ·have hmpos:0<mc:=by omega
   obtain ⟨lo,hlo⟩:∃lo,lo=max (mc-16) 0:=⟨_,rfl⟩;have hlo0:0<=lo:=by omega
   have hlo1:lo<mc:=by omega
   have Hlo:Hid (dwn mc=lo):=hlo.symm;have hw1:IntKind.i64.wrap (mc-16)=mc-16:=by rw [IntKind.wrap_i64];omega
   have hw2:IntKind.i64.wrap (b+lo)=b+lo:=by rw [IntKind.wrap_i64];omega
   have hw3:IntKind.i64.wrap (b+mc)=b+mc:=by rw [IntKind.wrap_i64];omega
   have hmx:=max_run (mc-16) 0;rw [<- hlo] at hmx;obtain ⟨oN,hoN⟩:=Int.eq_ofNat_of_zero_le (show 0<=b+lo by omega);obtain ⟨cN,hcN⟩:∃cN:Nat,mc-lo=(cN:Int)+1:=⟨(mc-lo-1).toNat,by omega⟩;obtain ⟨cells,hcells,hcc⟩:=hK3.kd.ker.blk;have hsl:∀W,(Instr.sliceAt 66 (.pointer (some ⟨kb,0,none⟩)) (some (.int .i64 (b+lo))) (some (.int .i64 (b+mc))) none).run Tryz.prog W=.ok (.slice (some ⟨kb,oN,none⟩) (cN+1) (1024-oN)) W:=fun W=>by
    rw [run_sliceAt_array_lh (P:=Tryz.prog) W 66 ⟨kb,0,none⟩ (by kernel_rfl) .i64 .i64 (b+lo) (b+mc) (by omega) (by omega) (by rw [show Tryz.prog.arrayLen 66=1024 by kernel_rfl];omega)];rw [show (sizeOf (Tryz.prog.elem 66)).run Tryz.prog W=.ok 1 W by kernel_rfl,show Tryz.prog.arrayLen 66=1024 by kernel_rfl];have e1:(b+lo).toNat=oN:=by omega
    have e2:(b+mc).toNat-oN=cN+1:=by omega
    have e3:¬1024=oN:=by omega
    simp only [Result.andThen,slicedAt,e1,e2,if_neg e3,Nat.mul_one,Addr.add_lit,Nat.zero_add]
   have hcl:=fun ty cap=>run_clear_words (P:=Tryz.prog) (w:=W3.drew) 183 65 Tryz.underlying183 (fun w=>by kernel_rfl) cN kb oN cells.toList 69 (show W3.drew.heap[kb]?=_ by rw [Array.toArray_toList];exact hcells) (by rw [Array.length_toList,hcc.size];omega) ty cap
   have hK3d:=hK3.frame ((Fr.refl W3 (fun _=>False)).drew) (fun _ _=>id) (fun _=>False.elim);have hK4:=hK3d.kd.ker.putW hcells oN (cN+1) (by omega) hoN (show mc-lo=((cN+1:Nat):Int) by omega);have hf4:Fr W3 _ (fun k=>k=kb):=((Fr.refl W3 (fun k=>k=kb)).drew).step (Fr.setRow W3.drew kb (laid cells.toList oN (List.replicate (cN+1) (.int .u32 0))).toArray) (fun k e=>.inl e);generalize W3.drew.setRow kb (laid cells.toList oN (List.replicate (cN+1) (.int .u32 0))).toArray=W4 at hcl hK4 hf4;have hkw:wb≠kb:=fun e=>hwb (.inl (.inl e))
   have hks:sb≠kb:=fun e=>hsb (.inl (.inl e))
   have l1':kb<wr.heap.size:=l1;have l0':wb<wr.heap.size:=l0;have l2':sb<wr.heap.size:=l2;have hkx:¬wr.heap.size=kb:=by omega
   have hbw4:=hf4.same (hf3.same hbw id) hkw;have hbs4:=hf4.same (hf3.same hbs id) hks;have hbx4:=hf4.same hbx hkx;have c0:=aa (o:=0) (hf3.same hbw id) rfl;have d0:=aa (o:=0) hbw4 rfl;have y0:=aa (o:=0) hbx4 rfl;have y1:=aa (o:=1) hbx4 rfl;have y2:=aa (o:=2) hbx4 rfl;clear hlo hcells hcc hoN hcN hK3d;obtain ⟨n1,hn1⟩:∃n1,gk=n1+1:=by
    cases gk with
    | zero=>exact absurd hE (by simp [Ends,low];omega)
    | succ n1=>exact ⟨n1,rfl⟩
   have hE2:Ends dwn low n1 lo:=by rw [<- Hlo.out];rw [hn1] at hE;exact hE.resolve_left (by simp [low];omega)
   have hL2:y=if (am bs').1 then (lo,(am bs').2,false) else aj dwn low n1 lo (am bs').2:=by rw [<- hL,hn1,workK_next (by simp [low];omega),Hlo.out]
   have Hn:Hid (gk=n1+1):=hn1;clear hE hL hn1;go_upto_region 3 with fail
   go_cut [42] (fun _ wx=>wx=W4)
   case first=>
    go_region_held3 (fun w'=>w'.cell? ⟨wb,0,none⟩=some (.pointer (some ⟨kb,0,none⟩))/\w'.cell? ⟨wr.heap.size,0,none⟩=some (.int .i64 b)/\w'.cell? ⟨wr.heap.size,2,none⟩=some (.int .i64 mc)) (go_keep) (fail)
    all_goals go_wp2
    all_goals go_meet
    all_goals exact rfl
   case rest=>
   have hcut2:=hcut.symm;subst hcut2;clear hcl hsl c0 x0 x1 x2 hw1 hw2 hw3 hmx hbx hK3;have hfx:=Fr.set1 W4 wr.heap.size 2 (.int .i64 lo);have hbx5:=ai W4 wr.heap.size 2 (.int .i64 lo) hbx4;simp at hbx5;have z2:=ab (o:=2) hbx4;go_upto_region 5 with fail
   generalize W4.setCell ⟨wr.heap.size,2,none⟩ (.int .i64 lo)=W5 at *
   have hnx:∀k,V'.fd kb k->k≠wr.heap.size:=fun k hk e=>by have:=hK.lt hk;omega
   have hK5:KerAt W5 kb {V' with ws:=clrW V'.ws (b+lo) (mc-lo)}:=hK4.frame hfx (fun k hk e=>hnx k (.inl hk) e)
   have hF5:Fr W3 W5 (fun k=>k=kb\/k=wr.heap.size):=(hf4.mono (fun _ e=>.inl e)).step hfx (fun k e=>.inl (.inr e))
   have hbw5:=hfx.same hbw4 (by omega);have hbs5:=hfx.same hbs4 (by omega);have hd5:W5.ownsRow 0 116 2 V'.dv D.length (domRow D):=hF5.owns (hf3.owns hK.kd.d (fun _ _=>id)) (fun k hk e=>by
    rcases e with e | e
    ·exact hK.kd.ap k hk (.inl e)
    ·exact hnx k (.inr hk) e)
   clear d0 y0 y1 y2 hbx4 hbw4 hbs4 hfx hK4 z2;have w0:=aa (o:=0) hbw5 rfl;have t0:=aa (o:=0) hbs5 rfl;have t1:=aa (o:=1) hbs5 rfl;have y0:=aa (o:=0) hbx5 rfl;have y1:=aa (o:=1) hbx5 rfl;have y2:=aa (o:=2) hbx5 rfl;have k0:=hK5.ch;have dd5:=(Fr.refl W5 (fun _=>False)).drew;obtain ⟨W6,hrun,hm6,hf6,hs6⟩:=(hK5.frame dd5 (fun _ _=>id)).held.put_run (P:=Tryz.prog) c_ Tryz.underlying59 f (.untyped b n lo);simp only [Slot.val,KCap.val] at hrun;have hK6:=(hK5.frame dd5 (fun _ _=>id)).putH hm6 hf6;go_cut [51] (fun _ wx=>wx=W6)
   case first=>
    go_region_law (fail)
    all_goals
     go_wp2;go_meet;case rel=>rfl
   case rest=>
   have hcut3:=hcut.symm;subst hcut3;clear hrun w0 t0 t1 y0 y1 y2 k0;have hF6:Fr wr W6 (fun k=>k=kb\/k=wr.heap.size\/k=V'.hb):=((hf3.mono (fun _=>False.elim)).step (hF5.step dd5 (fun _=>False.elim)) (fun k e=>by rcases e with e | e;exact .inl (.inl e);exact .inl (.inr (.inl e)))).step hf6 (fun k e=>.inl (.inr (.inr e)))
   have hfdk:V'.fd kb kb:=.inl (.inl rfl);have hfdh:V'.fd kb V'.hb:=.inl (.inr (.inl rfl));have hG6:KDG W6 kb ⟨bt K f b n m lo,D⟩ {V' with ws:=clrW V'.ws (b+lo) (mc-lo),H:=putM f (.untyped b n lo) V'.H}:=by
    refine ⟨⟨hK6,?_,hf6.owns (dd5.owns hd5 (fun _ _=>id)) (fun k hk e=>hK.kd.ap k hk (by rw [e];exact .inr (.inl rfl))),hK.kd.ap⟩,hK.gl.far hF6 (fun k e=>?_),hK.ge⟩
    ·rw [<- resetK_step (K:=K) (f:=f) (b:=b) (n:=n) (m:=m) (mc:=mc) (lo:=lo) (by omega) hle];have e1:=hK.kd.eq;simp only at e1;rw [<- e1];simp only [KerV.ker,look_put_fun]
    ·rcases e with e | e | e
     ·rw [e];exact hK.ge _ hfdk
     ·have:=hK.gl.lt;omega
     ·rw [e];exact hK.ge _ hfdh
   have hFW:Fr W1 W6 (fun k=>V.fd kb k\/k=d+1\/k=ub\/k=rb):=hF.step hF6 (fun k e=>by
    rcases e with e | e | e
    ·rw [e];exact (hsub kb hfdk).imp (fun h=>.inl h) id
    ·exact .inr (by have:=hF.size;omega)
    ·rw [e];exact (hsub V'.hb hfdh).imp (fun h=>.inl h) id)
   have hlen1:=hF.size;have hn6:∀k,¬V.fd kb k->k<W1.heap.size->¬(k=kb\/k=wr.heap.size\/k=V'.hb):=by
    rintro k h1 h2 (e | e | e)
    ·exact (hsub kb hfdk).elim (fun e1=>h1 (e▸e1)) (fun e1=>by omega)
    ·omega
    ·exact (hsub V'.hb hfdh).elim (fun e1=>h1 (e▸e1)) (fun e1=>by omega)
   have hd6:W6.heap[d]?=some o1:=hF6.same (hF.same hd nd) (hn6 d hdn (by omega));have hl6:W6.heap[d+1]?=some o2:=hF6.same ho2 (hn6 (d+1) hdn1 hlt1);have hT6:=hTB.frame hF6 (hn6 ub hA.nub hul) (hn6 g0 hA.ng0 hA.gl);obtain ⟨v,hv⟩:=hRB;have hv6:=hF6.same hv (hn6 rb hA.nrb (by omega));have key:YieldAt Fence.wide 0 Tryz.prog (d+1) #[] W6 fun e W'=>e=.returned (.bool (!(am bs').1))/\
    ((am bs').1=false->∃V2,ResX W1 kb ub rb g0 d c av tv th root V K D f b n m y o2 n1 W' lo V2 (am bs').2)/\((am bs').1=true->ResE W1 kb ub rb g0 d c av tv th root V K D f b n m y o2 o3 W'):=by
    refine YieldAt.mono (hgo W6 ⟨hFW,⟨_,hT6⟩,v,hv6⟩ hd6 hl6) ?_;rintro e W7 ⟨bb,Wb,Wc,he,hfb,⟨hfp,hpb⟩,hfc,ho7⟩;obtain ⟨q1,q2,v3,q3,q4⟩:=hpb _ (hT6.frame hfb (fun e=>hA.ud.2 e) (fun e=>hA.gd e));have hTc:=q2.frame hfc (fun e=>hA.ud.2 e) (fun e=>hA.gd e);have hvc:=hfc.same q3 (fun e=>by omega);have hfall:Fr W6 W7 (fun k=>k=d+1\/k=ub\/k=rb):=((hfb.mono (fun k hk=>.inl hk)).step hfp (fun k hk=>.inl (.inr hk))).step hfc (fun k hk=>.inl (.inl hk))
    have hK7:=hG6.frame hfall (fun k hk e=>by
     rcases hsub k hk with e1 | e1
     ·rcases e with e | e | e
      ·exact hA.nd1 (e▸e1)
      ·exact hA.nub (e▸e1)
      ·exact hA.nrb (e▸e1)
     ·rcases e with e | e | e<;>omega) (fun k e=>by have:=hA.two;rcases e with e | e | e<;>omega)
    have hF7:=hFW.step hfall (fun k hk=>.inl (.inr hk))
    refine ⟨by rw [he,q1];simp,fun hp=>?_,fun hp=>?_⟩
    ·have hbt:bb=true:=by rw [hp] at q1;cases bb with | true=>rfl | false=>cases q1
     subst hbt;rw [hp] at hL2;exact ⟨_,hK7,hlo0,by omega,hE2,by rw [hL2];rfl,hF7,hsub,ho7,hTc,v3,hvc⟩
    ·have hbf:bb=false:=by rw [hp] at q1;cases bb with | false=>rfl | true=>cases q1
     subst hbf;rw [hp,if_pos rfl] at hL2;rw [hL2];exact ⟨⟨_,hK7,hsub⟩,hF7,hTc,ho7,v3,hvc,fun _=>q4 rfl⟩
   obtain ⟨fn,tmps,assign,body,hy,hR⟩:=key;clear hK6 hm6 hf6 hs6 hK5 hF5 hd5 hG6 hFW hgo hF6 hK hF hsub ho2 hd6 hl6 hn6 hnx dd5 hbw5 hbs5 hbx5 hTB hT6 hv6 hv hL2;cases hp:(am bs').1 with
   | false=>
    rw [hp] at hR;go_upto_region 6 with fail
    refine (wpIn_wide (n:=1)).1 ?_;gi_wp2_with ((try refine ⟨hdd _,?_⟩);refine hR.mono ?_;clear hR;rintro e W7 ⟨rfl,hI7,_⟩)
    obtain ⟨V7,hI7⟩:=hI7 trivial;go_wp2;go_roundg n1
    case measure=>have:=Hn.out;omega
    case rel=>exact ⟨lo,V7,_,hI7⟩
   | true=>
    rw [hp] at hR;go_upto_region 6 with fail
    refine (wpIn_wide (n:=1)).1 ?_;gi_wp2_with ((try refine ⟨hdd _,?_⟩);refine hR.mono ?_;clear hR;rintro e W7 ⟨rfl,_,hI7⟩)
    have hI7:=hI7 trivial;go_wp2;exact bodyPost_ret (v:=.tuple #[]) (by simp [results,Tryz.results96,go_sem]) rfl ⟨⟨_,rfl⟩,hI7⟩
theorem polled_resetB {kb ub wb sb g0:Nat}{c:Cl}{av tv:Value}{th root:Int}{S:KS}{V:KerV}{f:Slot}{b n m:Int}{bs:List Bool}{w:World}(h:KDG w kb S V)(hg:KGood S)(hk:S.K.held f=some (.untyped b n m))(hT:TB w ub kb g0 c av tv th root bs)(hA:Apt w kb ub g0 V)
 (hb:w.heap[wb]?=some (.cells #[.pointer (some ⟨kb,0,none⟩)] 34 (0,0))) (hs:w.heap[sb]?=some (.cells #[.int .i64 f.node,.int .i64 f.index] 71 (0,0))) (hwb:¬V.fd kb wb) (hsb:¬V.fd kb sb) (hwu:wb≠ub) (hsu:sb≠ub) :
 Calls Tryz.prog 57 #[.pointer (some ⟨ub,0,none⟩),.func (.func 96) #[] #[.pointer (some ⟨wb,0,none⟩),.pointer (some ⟨sb,0,none⟩)]] w fun e w'=>
  e=.returned (.int .i64 (if (aw m bs).2.2 then 0 else 8))/\KBOut w kb ub g0 c av tv th root V ⟨bt S.K f b n m (aw m bs).1,S.D⟩ (aw m bs).2.1 w':=by
 have hwlt:wb<w.heap.size:=(Array.getElem?_eq_some_iff.1 hb).1;have hslt:sb<w.heap.size:=(Array.getElem?_eq_some_iff.1 hs).1;have hul:=hT.lt;have h2:=h.gl.lt;have hgl:=hA.gl;obtain ⟨u1,u2,u3,u4,u5,u6,u7⟩:=hg.untyped hk;have hn:∀k,w.heap.size<=k->¬V.fd kb k:=fun k hk e=>by have:=h.lt e;omega
 generalize hy:aw m bs=y;refine (polled_asks 96 #[.pointer (some ⟨wb,0,none⟩),.pointer (some ⟨sb,0,none⟩)] ub kb g0 c av tv th root bs w (V.fd kb)
  (fun W1 b' W'=>b'=y.2.2/\∃V',KDG W' kb ⟨bt S.K f b n m y.1,S.D⟩ V'/\Fr w W' (fun k=>V.fd kb k\/k=ub)/\(∀k,V'.fd kb k->V.fd kb k\/W1.heap.size<=k)/\TB W' ub kb g0 c av tv th root y.2.1) eg_reset hT hA.gu hA.gl (fun k hk=>h.lt hk) ?_ ?_).mono ?_
 ·intro d rb o1 o2 o3 W1 hf1 hwr hrd hd hl hrb hgo;have hs1:=hf1.size;have hdl:d+1<W1.heap.size:=(Array.getElem?_eq_some_iff.1 hl).1;rw [show (#[.func (.yield (d+1)) #[] #[]]++#[.pointer (some ⟨wb,0,none⟩),.pointer (some ⟨sb,0,none⟩)]:Array Value)=#[.func (.yield (d+1)) #[] #[],.pointer (some ⟨wb,0,none⟩),.pointer (some ⟨sb,0,none⟩)] from rfl];have hfar:∀x,¬V.fd kb x->x<w.heap.size->x≠ub->Far W1 kb ub rb g0 d x V:=fun x h1 h2 h3=>⟨hA.u,hA.g,hn _ hwr,hn _ (by omega),hn _ (by omega),h1,by omega,by omega,hrd,hdl,by omega,by omega,h3,by omega,⟨by omega,by omega⟩,by omega,by omega,hA.gu,by omega,⟨by omega,hA.u2,by omega⟩⟩
  refine (reset_asks kb wb sb ub rb g0 d c av tv th root bs o1 o2 o3 S.K S.D f b n m V W1 (h.frame hf1 (fun _ _=>id) (fun _=>False.elim)) hk u1 u3 u7 (hf1.same hb id) (hf1.same hs id) (hfar wb hwb hwlt hwu) (hfar sb hsb hslt hsu) (hT.frame hf1 id id) hd hl hrb hgo).mono ?_;rintro e W' ⟨he,hE⟩;rw [hy] at hE;obtain ⟨⟨V',hk,hs⟩,hfr,htb,ho,v,hv,h8⟩:=hE;refine ⟨he,hfr,y.2.2,v,ho,hv,h8,rfl,V',hk,(hf1.mono (fun _=>False.elim)).step hfr (fun k hk=>?_),hs,htb⟩;rcases hk with e | e | e | e
  ·exact .inl (.inl e)
  ·exact .inr (by omega)
  ·exact .inl (.inr e)
  ·exact .inr (by omega)
 ·rintro W1 b' W W' ⟨hb',V',hk,hf,hs,ht⟩ hfr;refine ⟨hb',V',hk.frame hfr (fun k hk e=>?_) (fun k e=>by omega),hf.step hfr (fun k e=>.inr e.1),hs,ht.frame hfr (fun e=>by omega) (fun e=>by omega)⟩;rcases hs k hk with e1 | e1
  ·have:=h.lt e1;omega
  ·omega
 ·rintro e w' ⟨b',W1,he,hf1,rfl,V',hk,hf,hs,ht⟩;exact ⟨he,V',hk,hf,fun k hk=>(hs k hk).imp id (fun e=>Nat.le_trans hf1.size e),ht⟩
def GotR (w:World)(kb ub g0:Nat)(c:Cl)(av tv:Value)(th root:Int)(V:KerV)(r:Int×KS)(e:Ending)(w':World):Prop:=(e=.returned (.tuple #[.int .i64 0,.int .i64 r.1])\/e=gup r.1)/\∃bs,KBOut w kb ub g0 c av tv th root V r.2 bs w'
def retypeX (y:KS×List Bool×Bool)(root:Int)(c:Cl):Int×KS:=if y.2.2 then orTwoS y.1 (retypeKB y.1 root c y.2.1) else (8,y.1)
theorem CallX.bout {w w':World}{kb ub g0:Nat}{S S':KS}{V:KerV}{c:Cl}{av tv:Value}{th root:Int}{bs:List Bool}(h:CallX w kb ub g0 S V c av tv th root bs)(ho:KGOut w kb V S' w'):KBOut w kb ub g0 c av tv th root V S' bs w':=by
 obtain ⟨V',k,f,s⟩:=ho;exact ⟨V',k,f.mono (fun _=>.inl),s,h.tb.frame f h.apt.u h.apt.g⟩
def RetS (w:World)(kb ub g0:Nat)(c:Cl)(av tv:Value)(th root:Int)(V:KerV)(S:KS)(bs:List Bool)(B gb cnt:Nat)(row:List Value)(W:World):Prop:=
 ∃V',CallX W kb ub g0 S V' c av tv th root bs/\Fr w W (fun k=>V.fd kb k\/k=ub)/\(∀k,V'.fd kb k->V.fd kb k\/w.heap.size<=k)/\W.ownsRow B 71 2 (.slice (some ⟨gb,0,none⟩) cnt cnt) cnt row/\¬V'.fd kb gb
theorem tretype_bits (kb ub g0:Nat)(S:KS)(V0:KerV)(c:Cl)(av tv:Value)(th root:Int)(bs:List Bool)(w0:World)(h0:CallX w0 kb ub g0 S V0 c av tv th root bs):
 Calls Tryz.prog 34 #[.pointer (some ⟨ub,0,none⟩)] w0 (GotR w0 kb ub g0 c av tv th root V0 (retypeX (aj ay a_ F0 S bs) root c)):=by
 have hult:=h0.tb.lt;obtain ⟨A0,cap0,hturn0,_⟩:=id h0.tb;have ck':=hturn0.ck;have hgood:KGood (aj ay a_ F0 S bs).1:=by obtain ⟨S',hA⟩:=h0.good;exact ⟨_,(Ag.work F0 bs hA).2⟩
 have hpo:=h0.polled ((Fr.refl w0 (fun _=>False)).alloc (.cells #[.pointer (some ⟨kb,0,none⟩)] 34)) (Nat.le_refl _) (heap_alloc_new _ _);generalize aj ay a_ F0 S bs=y at hpo hgood ⊢;obtain ⟨S1,bs1,go⟩:=y;dsimp only at hpo hgood;obtain ⟨ans,hans⟩:∃ans,Hid (retypeX (S1,bs1,go) root c=ans):=⟨_,rfl⟩;rw [hans.out];cases go with
 | false=>
  have ha:ans=(8,S1):=hans.out.symm;subst ha;clear hans;go_enter Tryz.func34,Tryz.ntmps34
  go_wp2_with (first
   |(go_at_call 58;refine (workOff_any kb _).mono ?_;rintro e w' ⟨rfl,rfl⟩)
   |(go_at_call 57;refine hpo.mono ?_;rintro e w ⟨rfl,V,hG,hF0,hs0,_⟩))
  go_ret2;exact ⟨.inl rfl,bs1,V,hG.kd,hF0,fun k hk=>(hs0 k hk).imp id (fun e=>by simp at e;omega),hG.tb⟩
 | true=>
 have HA:Hid (orTwoS S1 (retypeKB S1 root c bs1)=ans):=hans.out;clear hans;go_enter Tryz.func34,Tryz.ntmps34
 go_wp2_with (first
  |(go_at_call 58;refine (workOff_any kb _).mono ?_;rintro e w' ⟨rfl,rfl⟩)
  |(go_at_call 57;refine hpo.mono ?_;rintro e w ⟨rfl,V,hG,hF0,hs0,_⟩;obtain ⟨A1,cap1,hu1,_⟩:=id hG.tb;have cat1:=hu1.cat))
 have hs1:∀k,V.fd kb k->V0.fd kb k\/w0.heap.size<=k:=fun k hk=>(hs0 k hk).imp id (fun e=>by simp at e;omega)
 have hgot2:∀x S2 bs2 W,KBOut w kb ub g0 c av tv th root V S2 bs2 W->ans=(x,S2)->GotR w0 kb ub g0 c av tv th root V0 ans (.returned (.tuple #[.int .i64 0,.int .i64 x])) W:=fun x S2 bs2 W ho e=>by subst e;exact ⟨.inl rfl,bs2,KBOut.then hF0 hs1 ho⟩
 have hgot:∀x S2 W,KGOut w kb V S2 W->ans=(x,S2)->GotR w0 kb ub g0 c av tv th root V0 ans (.returned (.tuple #[.int .i64 0,.int .i64 x])) W:=fun x S2 W ho e=>hgot2 x S2 bs1 W (hG.bout ho) e
 have hgup:∀W,KGOut w kb V S1 W->ans=(2,S1)->GotR w0 kb ub g0 c av tv th root V0 ans (gup 2) W:=fun W ho e=>by subst e;exact ⟨.inr rfl,bs1,KBOut.then hF0 hs1 (hG.bout ho)⟩
 have hstay:∀W,Fr w W (fun _=>False)->KGOut w kb V S1 W:=fun W hW=>hG.kd.stay hW
 have hg:Glob w:=hG.kd.gl;have hok:RetypeOk V.ker:=by rw [hG.kd.kd.eq];exact hgood.retypeOk
 have hV:V.ker=S1.K:=hG.kd.kd.eq;obtain ⟨bv,h⟩:=hG.call;have HV:Hid (V.ker=S1.K):=hV;clear hpo h0 hF0 hs0 hs1 hV ck' hturn0;refine h.find.mono ?_;rintro e W2 ⟨rfl,hF2⟩;clear cat1;cases hfi:ao V.ker root c.at_ with
 | none=>
  have ha:Hid (ans=(2,S1)):=by show _=_;rw [<- HA.out];rw [HV.out] at hfi;simp [retypeKB,hfi,orTwoS]
  clear HA;unfold au gup;go_wp2;exact ⟨rfl,hgup _ (hstay _ hF2) ha.out⟩
 | some f=>
  unfold au slotV;go_wp2_with fail
  generalize hW3:W2.alloc _=W3;have hf3:Fr W2 W3 (fun _=>False):=by rw [<- hW3];exact (Fr.refl _ _).alloc _
  have hbf:W3.heap[W2.heap.size]?=some (.cells #[.int .i64 f.node,.int .i64 f.index] 71 (0,0)):=by rw [<- hW3];exact heap_alloc_new _ _
  clear hW3;have hF3:=hF2.step hf3 (fun _=>False.elim);have l2:=hF2.size;have l3:W2.heap.size<W3.heap.size:=(Array.getElem?_eq_some_iff.1 hbf).1;have h3:=h.frame hF3;have c2:=h3.ker.ch;have s0:=aa (o:=0) hbf rfl;have s1:=aa (o:=1) hbf rfl;have hrun:=ar (h3.ker.frame ((Fr.refl W3 (fun _=>False)).drew) (fun _ _=>id)) f false;have hfa:=(Fr.refl W3 (fun _=>False)).alloc (.cells #[.int .i64 0,.int .i64 0,.int .i64 0] 76);have hrun2:=ar (h3.ker.frame hfa.drew (fun _ _=>id)) f false;simp only [Bool.false_eq_true,if_false] at hrun hrun2;have lk:=World.block_lt_of_cell? _ _ c2;obtain ⟨tf,x0,x1,x2,hta,hcase⟩:∃(tf:Bool) (x0 x1 x2:Int),(∀W,(Instr.typeAssert (capV (V.ker.held f)) 79 76 true).run Tryz.prog W=.ok (.tuple #[.agg #[.int .i64 x0,.int .i64 x1,.int .i64 x2],.bool tf]) W)/\
   ((tf=true/\V.ker.held f=some (.untyped x0 x1 x2))\/(tf=false/\∀b n m,V.ker.held f≠some (.untyped b n m))):=by
   cases hh:V.ker.held f with
   | none=>exact ⟨false,0,0,0,ta_nil_untyped,.inr ⟨rfl,fun _ _ _ e=>by cases e⟩⟩
   | some k=>
    cases hu:k.isU with
    | true=>
     cases k with
     | untyped b n m=>exact ⟨true,b,n,m,ta_untyped_untyped _,.inl ⟨rfl,rfl⟩⟩
     | _=>cases hu
    | false=>exact ⟨false,0,0,0,ta_untyped hu,.inr ⟨rfl,fun b n m e=>by cases e;cases hu⟩⟩
  generalize capV (V.ker.held f)=hv at hrun hrun2 hta;go_cut [7,8] (fun v7 v8 wx=>v8=.bool tf/\∃xb,v7=.pointer (some ⟨xb,0,none⟩)/\Fr W3 wx (fun _=>False)/\W3.heap.size<=xb/\wx.heap[xb]?=some (.cells #[.int .i64 x0,.int .i64 x1,.int .i64 x2] 76 (0,0)))
  case first=>
   go_region_held3 (fun w'=>w'.cell? ⟨kb,1024,none⟩=some (.map (some V.hb))/\w'.cell? ⟨W2.heap.size,0,none⟩=some (.int .i64 f.node)/\w'.cell? ⟨W2.heap.size,1,none⟩=some (.int .i64 f.index)) (go_keep) (fail)
   all_goals go_wp2
   all_goals go_meet
   all_goals exact ⟨rfl,W3.heap.size,rfl,((Fr.refl _ _).alloc _).drew,Nat.le_refl _,heap_alloc_new _ _⟩
  case rest=>
   obtain ⟨rfl,xb,rfl,hf4,_,_⟩:=hcut;clear hrun hrun2 hta c2 s0 s1 hfa lk h3;have hF4:=hF3.step hf4 (fun _=>False.elim);have hbf4:=hf4.same hbf id;have h4:=h.frame hF4;rcases hcase with ⟨rfl,hk⟩ | ⟨rfl,hk⟩
   ·have hg4:Glob wc:=hg.fr0 hF4;have t4:=h4.turn.cty;have t5:=h4.turn.cbits;have t6:=h4.turn.ccount;have hio:∀W,Glob W->Calls Tryz.prog 60 #[.int .i64 c.ty,.int .i64 c.bits] W fun e w'=>e=.returned (.bool (isObj c.ty c.bits))/\w'=W:=fun W hW=>isObject_any c.ty c.bits W hW
    go_upto_region 9 with fail
    go_cut [69] (fun v69 wx=>v69=.bool (!decide (isObj c.ty c.bits=true/\1<=c.count/\c.count<=8))/\Fr wc wx (fun _=>False))
    case first=>
     cases hob:isObj c.ty c.bits with
     | false=>
      simp only [hob] at hio;go_quiet ((go_at_call 60;exact quiet_same1 (hio _ (by exact ⟨hg4.n0,hg4.n1,hg4.bits⟩))))
      all_goals go_wp2
      all_goals go_meet
      all_goals exact ⟨by simp [hob],(Fr.refl _ _).drewN _⟩
     | true=>
      simp only [hob] at hio;by_cases hc1:c.count<1
      ·have hc2:decide (c.count<1)=true:=decide_eq_true hc1;go_quiet ((go_at_call 60;exact quiet_same1 (hio _ (by exact ⟨hg4.n0,hg4.n1,hg4.bits⟩))))
       all_goals go_wp2
       all_goals go_meet
       all_goals exact ⟨by simp [hob];omega,(Fr.refl _ _).drewN _⟩
      ·have hc2:decide (c.count<1)=false:=decide_eq_false hc1;by_cases hc3:8<c.count
       ·have hc4:decide (8<c.count)=true:=decide_eq_true hc3;go_quiet ((go_at_call 60;exact quiet_same1 (hio _ (by exact ⟨hg4.n0,hg4.n1,hg4.bits⟩))))
        all_goals go_wp2
        all_goals go_meet
        all_goals exact ⟨by simp [hob];omega,(Fr.refl _ _).drewN _⟩
       ·have hc4:decide (8<c.count)=false:=decide_eq_false hc3;go_quiet ((go_at_call 60;exact quiet_same1 (hio _ (by exact ⟨hg4.n0,hg4.n1,hg4.bits⟩))))
        all_goals go_wp2
        all_goals go_meet
        all_goals exact ⟨by simp [hob];omega,(Fr.refl _ _).drewN _⟩
    case rest=>
     obtain ⟨rfl,hf5⟩:=hcut;have hF5:=hF4.step hf5 (fun _=>False.elim);have hbf5:=hf5.same hbf4 id;have h5:=h.frame hF5;clear t4 t5 t6 hio hg4 h4;by_cases hgood2:isObj c.ty c.bits=true/\1<=c.count/\c.count<=8
     ·have hdec:(!decide (isObj c.ty c.bits=true/\1<=c.count/\c.count<=8))=false:=by rw [decide_eq_true hgood2];rfl
      rw [hdec];clear hdec;obtain ⟨hob,hc1,hc8⟩:=hgood2;obtain ⟨cnt,hcnt⟩:=Int.eq_ofNat_of_zero_le (show 0<=c.count by omega);have hn1:1<=cnt:=by omega
      have hn8:cnt<=8:=by omega
      have hix:∀t,ao V.ker root c.to=some t->t.index<=1000000:=fun t ht=>by
       have h1:=findK_ok ht;simp [okK] at h1;have:=hok.slots t.node;omega
      have Hans:Hid (ans=(match rowK V.ker root c.to cnt with
       | none=>(2,S1)
       | some (_,false)=>(4,S1)
       | some (t,true)=>if ax S1.K f then carveKS S1 f t c.ty c.bits root x0 x1 x2 cnt else if (aw x2 bs1).2.2 then carveKS {S1 with K:=bt S1.K f x0 x1 x2 (aw x2 bs1).1} f t c.ty c.bits root x0 x1 (aw x2 bs1).1 cnt else (8,{S1 with K:=bt S1.K f x0 x1 x2 (aw x2 bs1).1}))):=by
       show _=_;rw [<- HA.out];rw [HV.out] at hfi hk ⊢;unfold retypeKB;rw [hfi];dsimp only;rw [hk];dsimp only;rw [if_pos ⟨hob,hc1,hc8⟩,hcnt,Int.toNat_natCast];rcases rowK S1.K root c.to cnt with _ | ⟨s,_ | _⟩
       ·rfl
       ·rfl
       ·dsimp only;split
        ·rfl
        ·split<;>rfl
      have t3:=h5.turn.cto;have t6:=h5.turn.ccount;rw [hcnt] at t6;have hfr:=fun W (hW:CallAt W kb ub V c av tv bv th root)=>findRow_any V kb ub c av tv bv th root cnt W hW hn1 hn8 hix
      have h6:=h5.frame ((Fr.refl wc (fun _=>False)).drew);have hbits:=isObj_bits hob;clear hob hc1 hc8 HA hix;cases hrow:rowK V.ker root c.to cnt with
      | none=>
       have ha:Hid (ans=(2,S1)):=by show _=_;rw [Hans.out,hrow]
       clear Hans;go_upto_region 11 with fail
       go_region_with (go_at_call 61;refine (hfr _ h6).mono ?_;rintro e W7 ⟨hf7,he⟩;rw [hrow] at he;dsimp only at he;subst he;unfold gup;refine panicOut (by exact ⟨rfl,hgup _ (hstay _ ((hF5.drew).step hf7 (fun _=>False.elim))) ha.out⟩) W7 ?_)
       all_goals trivial
      | some p=>
       obtain ⟨t,bb⟩:=p;cases bb with
       | false=>
        have ha:Hid (ans=(4,S1)):=by show _=_;rw [Hans.out,hrow]
        clear Hans;go_upto_region 11 with fail
        go_region_held3 (fun w'=>w'.cell? ⟨ub,3,none⟩=some tv/\w'.cell? ⟨ub,6,none⟩=some (.int .i64 (cnt:Int))) (go_keep)
         ((go_at_call 61;refine (hfr _ h6).mono ?_;rintro e W7 ⟨hf7,he⟩;rw [hrow] at he;dsimp only at he;subst he;have g1:=(h6.frame hf7).turn.cto;have g2:=(h6.frame hf7).turn.ccount;rw [hcnt] at g2))
        have hF7:=(hF5.drew).step hf7 (fun _=>False.elim);clear g1 g2 t3 t6 hfr h6;go_wp2;go_ret2;exact hgot _ _ _ (hstay _ hF7) ha.out
       | true=>
        have ha:Hid (ans=if ax S1.K f then carveKS S1 f t c.ty c.bits root x0 x1 x2 cnt else if (aw x2 bs1).2.2 then carveKS {S1 with K:=bt S1.K f x0 x1 x2 (aw x2 bs1).1} f t c.ty c.bits root x0 x1 (aw x2 bs1).1 cnt else (8,{S1 with K:=bt S1.K f x0 x1 x2 (aw x2 bs1).1})):=by show _=_;rw [Hans.out,hrow]
        clear Hans;go_upto_region 11 with fail
        go_region_held3 (fun w'=>w'.cell? ⟨ub,3,none⟩=some tv/\w'.cell? ⟨ub,6,none⟩=some (.int .i64 (cnt:Int))) (go_keep)
         ((go_at_call 61;refine (hfr _ h6).mono ?_;rintro e W7 ⟨hf7,he⟩;rw [hrow] at he;dsimp only at he;obtain ⟨gb,rfl,hown⟩:=he;have g1:=(h6.frame hf7).turn.cto;have g2:=(h6.frame hf7).turn.ccount;rw [hcnt] at g2))
        have hF7:=(hF5.drew).step hf7 (fun _=>False.elim);have hbf7:=hf7.same (w:=wc.drew) hbf5 id;clear g1 g2 t3 t6 hfr h6;have hB:w.heap.size<=wc.drew.heap.size:=hF5.size;have hgb:wc.drew.heap.size<=gb:=(hown.lt gb rfl).1;have hgk:¬V.fd kb gb:=fun e=>by have:=hG.kd.lt e;omega
        have hrn:=row_ne hrow hk;have hun:=hgood.untyped (by rw [<- HV.out];exact hk);have hun6:0<=x0/\x0<=1024/\0<=x2/\x2<=1024/\0<=x1/\x1<=10:=⟨hun.1,hun.2.1,hun.2.2.1,hun.2.2.2.1,hun.2.2.2.2.1,hun.2.2.2.2.2.1⟩;have hkids9:∀x,V.ker.st f=some x->x.kids.length<=900000:=hok.kids f;have h7:=h.ker.frame hF7 (fun _ _=>id);have hd7:=(Fr.refl W7 (fun _=>False)).drew;have hch:=hasChildren_any V kb f W7.drew (h7.frame hd7 (fun _ _=>id));have ct:=h7.ct;have s0:=aa (o:=0) hbf7 rfl;have s1:=aa (o:=1) hbf7 rfl;clear hrow hB hok;go_upto_region 14 with fail
        cases hkids:ax V.ker f with
        | true=>
         rw [hkids] at hch;have hkS:ax S1.K f=true:=by rw [<- HV.out];exact hkids
         obtain ⟨x9,K9,hx9⟩:∃x9 K9,carveK V.ker f t c.ty c.bits root x0 x1 x2 cnt=(x9,K9):=⟨_,_,rfl⟩;have ha2:Hid (ans=(x9,⟨K9,S1.D⟩)):=by
          show _=_;rw [ha.out,if_pos hkS,carveKS,<- HV.out,hx9]
         have hcv:=fun W (hW:Fr W7 W (fun _=>False))=>carve_from h (hF7.step hW (fun _=>False.elim)) hun6 hkids9 hk (fun e=>hgk (.inl e)) (hW.owns hown (fun _ _=>id)) hn1 hn8 hbits hrn hx9
         clear ha hx9 hkS;go_region_held3 (fun w'=>w'.cell? ⟨kb,1025,none⟩=some (.map (some V.tb))/\w'.cell? ⟨W2.heap.size,0,none⟩=some (.int .i64 f.node)/\w'.cell? ⟨W2.heap.size,1,none⟩=some (.int .i64 f.index)) (go_keep)
          ((go_at_call 62;refine hch.mono ?_;rintro e W9 ⟨rfl,hf9⟩;have hf9':=hd7.step hf9 (fun _=>False.elim);have g0:=(h7.frame hf9' (fun _ _=>id)).ct;have g1:=aa (o:=0) (hf9'.same hbf7 id) rfl;have g2:=aa (o:=1) (hf9'.same hbf7 id) rfl))
         clear hch ct s0 s1 g0;go_wp2_with (go_at_call 64;refine (hcv _ hf9').mono ?_;rintro e W10 ⟨rfl,hK10⟩)
         go_ret2;exact hgot _ _ _ (hG.kd.kout hK10) ha2.out
        | false=>
         rw [hkids] at hch;have hkS:ax S1.K f=false:=by rw [<- HV.out];exact hkids
         have hkK:S1.K.held f=some (.untyped x0 x1 x2):=by rw [<- HV.out];exact hk
         have hrm:0<=(aw x2 bs1).1/\(aw x2 bs1).1<=x2:=reset_range 100 x2 bs1 hun6.2.2.1;have hgd2:=hgood.reset hkK hkS hrm.1 hrm.2;have hpr0:∀W9,Fr W7 W9 (fun _=>False)->Calls Tryz.prog 57 #[.pointer (some ⟨ub,0,none⟩),.func (.func 96) #[] #[.pointer (some ⟨W9.heap.size,0,none⟩),.pointer (some ⟨W9.heap.size+1,0,none⟩)]] ((W9.alloc (.cells #[.pointer (some ⟨kb,0,none⟩)] 34)).alloc (.cells #[.int .i64 f.node,.int .i64 f.index] 71)) fun e W10=>e=.returned (.int .i64 (if (aw x2 bs1).2.2 then 0 else 8))/\W10.cell? ⟨W2.heap.size,0,none⟩=some (.int .i64 f.node)/\W10.cell? ⟨W2.heap.size,1,none⟩=some (.int .i64 f.index)/\W2.heap.size<W10.heap.size/\
          RetS w kb ub g0 c av tv th root V ⟨bt S1.K f x0 x1 x2 (aw x2 bs1).1,S1.D⟩ (aw x2 bs1).2.1 wc.drew.heap.size gb cnt (bf (br t cnt)) W10:=by
          intro W9 hf9;obtain ⟨hfb,hsz,hb1,hb2⟩:=box_two (w:=W9) (a:=.cells #[.pointer (some ⟨kb,0,none⟩)] 34) (b:=.cells #[.int .i64 f.node,.int .i64 f.index] 71) rfl;have hF8:Fr W7 ((W9.alloc (.cells #[.pointer (some ⟨kb,0,none⟩)] 34)).alloc (.cells #[.int .i64 f.node,.int .i64 f.index] 71)) (fun _=>False):=hf9.step hfb (fun _=>False.elim);have hF9:=hF7.step hF8 (fun _=>False.elim);have hG9:=hG.frame hF9;have hsz9:w.heap.size<=W9.heap.size:=(hF7.step hf9 (fun _=>False.elim)).size;have hul:=hG.tb.lt;have hbig:∀k,w.heap.size<=k->¬V.fd kb k:=fun k hk e=>by have:=hG.kd.lt e;omega
          generalize (W9.alloc (.cells #[.pointer (some ⟨kb,0,none⟩)] 34)).alloc (.cells #[.int .i64 f.node,.int .i64 f.index] 71)=W8 at *
          refine (polled_resetB hG9.kd hgood hkK hG9.tb hG9.apt hb1 hb2 (hbig _ hsz9) (hbig _ (by omega)) (by omega) (by omega)).mono ?_;rintro e W10 ⟨he,V10,k10,f10,s10,t10⟩;have hbf8:=f10.same (hF8.same hbf7 id) (fun e=>e.elim (hbig _ l2) (fun e=>by omega))
          have hgu:gb≠ub:=by have:=hF5.size;have:wc.drew.heap.size=wc.heap.size:=rfl;omega
          have hgk2:∀k,(Value.slice (some ⟨gb,0,none⟩) cnt cnt).ownBlock=some k->¬(V.fd kb k\/k=ub):=fun k hk e=>by
           have h1:gb=k:=by simpa [Value.ownBlock] using hk
           rw [h1] at hgk hgu;exact e.elim hgk hgu
          refine ⟨he,aa (o:=0) hbf8 rfl,aa (o:=1) hbf8 rfl,(Array.getElem?_eq_some_iff.1 hbf8).1,V10,hG9.past k10 hgd2 f10 s10 t10,(hF9.mono (fun _=>False.elim)).step f10 (fun _ e=>.inl e),fun k hk=>(s10 k hk).imp id (fun e=>Nat.le_trans hF9.size e),f10.owns (hF8.owns hown (fun _ _=>id)) hgk2,fun e=>?_⟩
          rcases s10 gb e with e1 | e1
          ·exact hgk e1
          ·have:=(hF8.owns hown (fun _ _=>id)).lt gb rfl;omega
         cases hgo2:(aw x2 bs1).2.2 with
         | false=>
          have ha2:Hid (ans=(8,⟨bt S1.K f x0 x1 x2 (aw x2 bs1).1,S1.D⟩)):=by
           show _=_;rw [ha.out,if_neg (by rw [hkS];simp),if_neg (by rw [hgo2];simp)]
          have hpr:=hpr0;rw [hgo2] at hpr;simp only [Bool.false_eq_true,if_false] at hpr;generalize (⟨bt S1.K f x0 x1 x2 (aw x2 bs1).1,S1.D⟩:KS)=S9 at ha2 hpr;generalize (aw x2 bs1).2.1=bs9 at hpr;clear ha hkS hgd2 hkK hrm hpr0 hgo2;go_region_held3 (fun w'=>w'.cell? ⟨kb,1025,none⟩=some (.map (some V.tb))/\w'.cell? ⟨W2.heap.size,0,none⟩=some (.int .i64 f.node)/\w'.cell? ⟨W2.heap.size,1,none⟩=some (.int .i64 f.index)) (go_keep)
           ((go_at_call 62;refine hch.mono ?_;rintro e W9 ⟨rfl,hf9⟩;have hf9':=hd7.step hf9 (fun _=>False.elim);have g0:=(h7.frame hf9' (fun _ _=>id)).ct;have g1:=aa (o:=0) (hf9'.same hbf7 id) rfl;have g2:=aa (o:=1) (hf9'.same hbf7 id) rfl))
          clear hch ct s0 s1 g0;go_wp2_with (first
           |(go_at_call 63;refine (reset_any kb f _).mono ?_;rintro e w' ⟨rfl,rfl⟩)
           |(go_at_call 57;refine (hpr _ hf9').mono ?_;rintro e W10 ⟨rfl,g3,g4,g5,hR10⟩))
          go_ret2;obtain ⟨V10,hG10,hf10,hs10,_,_⟩:=hR10;exact hgot2 _ _ _ _ ⟨V10,hG10.kd,hf10,hs10,hG10.tb⟩ ha2.out
         | true=>
          obtain ⟨x9,K9,hx9⟩:∃x9 K9,carveK (bt S1.K f x0 x1 x2 (aw x2 bs1).1) f t c.ty c.bits root x0 x1 (aw x2 bs1).1 cnt=(x9,K9):=⟨_,_,rfl⟩;have ha2:Hid (ans=(x9,⟨K9,S1.D⟩)):=by
           show _=_;rw [ha.out,if_neg (by rw [hkS];simp),if_pos hgo2,carveKS,hx9]
          have hcv:∀W10,RetS w kb ub g0 c av tv th root V ⟨bt S1.K f x0 x1 x2 (aw x2 bs1).1,S1.D⟩ (aw x2 bs1).2.1 wc.drew.heap.size gb cnt (bf (br t cnt)) W10->Calls Tryz.prog 64 #[.pointer (some ⟨ub,0,none⟩),.agg #[.int .i64 f.node,.int .i64 f.index],.slice (some ⟨gb,0,none⟩) cnt cnt] W10 fun e w'=>e=.returned (.int .i64 x9)/\∃bs9,KBOut w kb ub g0 c av tv th root V ⟨K9,S1.D⟩ bs9 w':=by
           rintro W10 ⟨V10,hG10,hf10,hs10,hown10,hgk10⟩;have hV10:V10.ker=bt S1.K f x0 x1 x2 (aw x2 bs1).1:=hG10.kd.kd.eq;obtain ⟨bv10,hc10⟩:=hG10.call;refine (carve_from (V:=V10) (x:=x9) (K:=K9) (B:=wc.drew.heap.size) (f:=f) (t:=t) (b:=x0) (n:=x1) (m:=(aw x2 bs1).1) hc10 (Fr.refl W10 _) ⟨hun6.1,hun6.2.1,hrm.1,by omega,hun6.2.2.2.2.1,hun6.2.2.2.2.2⟩ ?_ (by rw [hV10];simp [bt,upd]) (fun e=>hgk10 (.inl e)) hown10 hn1 hn8 hbits hrn (by rw [hV10];exact hx9)).mono ?_
           ·intro x hx;rw [hV10] at hx;exact hkids9 x (by rw [HV.out];exact hx)
           ·rintro e w' ⟨he,hK10⟩;exact ⟨he,_,KBOut.then hf10 hs10 (hG10.bout (hG10.kd.kout hK10))⟩
          have hpr:=hpr0;rw [hgo2] at hpr;simp only [if_true] at hpr;generalize (⟨bt S1.K f x0 x1 x2 (aw x2 bs1).1,S1.D⟩:KS)=S9 at hcv hpr;generalize (aw x2 bs1).2.1=bs9 at hcv hpr;clear ha hx9 hkS hgd2 hkK hrm hpr0 hgo2;go_region_held3 (fun w'=>w'.cell? ⟨kb,1025,none⟩=some (.map (some V.tb))/\w'.cell? ⟨W2.heap.size,0,none⟩=some (.int .i64 f.node)/\w'.cell? ⟨W2.heap.size,1,none⟩=some (.int .i64 f.index)) (go_keep)
           ((go_at_call 62;refine hch.mono ?_;rintro e W9 ⟨rfl,hf9⟩;have hf9':=hd7.step hf9 (fun _=>False.elim);have g0:=(h7.frame hf9' (fun _ _=>id)).ct;have g1:=aa (o:=0) (hf9'.same hbf7 id) rfl;have g2:=aa (o:=1) (hf9'.same hbf7 id) rfl))
          clear hch ct s0 s1 g0;go_wp2_with (first
           |(go_at_call 63;refine (reset_any kb f _).mono ?_;rintro e w' ⟨rfl,rfl⟩)
           |(go_at_call 57;refine (hpr _ hf9').mono ?_;rintro e W10 ⟨rfl,g3,g4,g5,hR10⟩)
           |(go_at_call 64;refine (hcv _ hR10).mono ?_;rintro e W12 ⟨rfl,bs12,hK12⟩))
          go_ret2;exact hgot2 _ _ _ _ hK12 ha2.out
     ·have hdec:(!decide (isObj c.ty c.bits=true/\1<=c.count/\c.count<=8))=true:=by rw [decide_eq_false hgood2];rfl
      rw [hdec];clear hdec;have ha:Hid (ans=(7,S1)):=by
       show _=_;rw [<- HA.out];rw [HV.out] at hfi hk;unfold retypeKB;rw [hfi];dsimp only;rw [hk];dsimp only;rw [if_neg hgood2];rfl
      clear HA hgood2;go_wp2;go_ret2;exact hgot _ _ _ (hstay _ hF5) ha.out
   ·have ha:Hid (ans=(3,S1)):=by
     show _=_;rw [<- HA.out];rw [HV.out] at hfi hk;unfold retypeKB;rw [hfi];dsimp only;cases hh:S1.K.held f with
     | none=>rfl
     | some k=>
      cases k with
      | untyped b n m=>exact absurd hh (hk b n m)
      | _=>rfl
    clear HA hk;go_wp2;go_ret2;exact hgot _ _ _ (hstay _ hF4) ha.out
end Go.Proofs.YtdpjgflemddekaaGreatDoor
