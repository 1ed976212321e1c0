/- The law's booted: two kernels on one side. -/
import Derived.Test.YtdpjgflemddekaaGreatDoorMTRo
import Derived.Test.YtdpjgflemddekaaGreatDoorMLawL
import Derived.Test.YtdpjgflemddekaaGreatDoorMRefM0
set_option maxRecDepth 100000
set_option maxHeartbeats 4000000
namespace Go.Proofs.YtdpjgflemddekaaGreatDoor
open Go.RowKit Go.Shelf
def lawU0:LawV:=⟨fun _=>.slice none 0 0,fun _=>[]⟩
theorem law_nil {w:World}{wb:Nat}(h:w.heap[wb]?=some (.cells (worldCells lawU0) 30 (0,0))):LawAt w wb lawU0:=
 ⟨h,fun _ _=>World.ownsRow_nil _ _ _ _,fun _ _ e=>by simp [lawU0,Value.ownBlock] at e,fun _ _ _ _ _ k e=>by simp [lawU0,Value.ownBlock] at e,
  fun k ⟨j,v,_,_,h,_⟩=>by simp [lawU0] at h,fun k ⟨j,v,_,_,h,_⟩=>by simp [lawU0] at h⟩
theorem rboot_ex (w:World):
 Calls Tryz.prog 14 #[] w fun e' w'=>∃ky V,e'=.returned (.pointer (some ⟨ky,0,none⟩))/\RD w' ky ⟨bootR,[],fun _=>0,[]⟩ V/\Fr w w' (fun _=>False)/\(∀k,V.fq ky k->w.heap.size<=k):=
 (rboot_any w).mono fun _ _ ⟨h1,V,h2,h3,h4,h5,h6,h7⟩=>⟨_,V,h1,⟨h2,funext h5,by rw [h4];exact World.ownsRow_nil _ _ _ _,(fun k hk=>by rw [h4] at hk;cases hk),by rw [h3];exact World.ownsRow_nil _ _ _ _,(fun k hk=>by rw [h3] at hk;cases hk)⟩,h6,fun k hk=>hk.elim (h7 k) (fun e=>e.elim (fun e=>by rw [h4] at e;cases e) (fun e=>by rw [h3] at e;cases e))⟩
theorem infoSide:(Tryz.prog.info? 49).map (fun i=>(i.zero,i.size,i.bytes))=some (some (.pointer none),1,8):=by kernel_rfl
theorem side_news (W:World)(o:Obj)(v:Value)(t:TypeId):∀j u,[v][j]?=some u->((W.alloc o).alloc (.cells #[v] t)).cell? ((⟨W.heap.size+1,0,none⟩:Addr).add j)=some u:=
 news_at (W.alloc o) [v] t (W.heap.size+1) (by simp)
structure Booted (w:World)(wb:Nat)(U U':LawV)(D:SideD)(w':World):Prop where
 at_:GameAt w' wb U' D
 r0:U'.rl 0=U.rl 0++[.pointer (some ⟨D.sb,0,none⟩)]
 len:∀j,j<6->(U'.rl j).length<=(U.rl j).length+1
 fr:Fr w w' (U.fp wb)
 fpU:∀k,U'.fp wb k->U.fp wb k\/w.heap.size<=k
 cbU:∀k,U'.cb k->U.cb k
 lo:∀k,D.fp k->w.heap.size<=k
theorem fp_nil {wb k:Nat}(h:lawU0.fp wb k):k=wb:=by
 rcases h with h | ⟨j,_,h⟩
 ·exact h
 ·simp [lawU0,Value.ownBlock] at h
theorem cb_nil {k:Nat}(h:lawU0.cb k):False:=by
 obtain ⟨j,v,_,_,h,_⟩:=h;simp [lawU0] at h
theorem good_nil (w:World):GoodL w lawU0:=
 ⟨fun i v hv=>by simp [lawU0] at hv,fun i v hv=>by simp [lawU0] at hv,fun i v hv=>by simp [lawU0] at hv,rfl,fun i v x hv=>by simp [lawU0] at hv⟩
theorem booted_end {w W1 W2 Y:World}{wb kb ky g cap:Nat}{U:LawV}{V:KerV}{VR:RefV}(h:LawAt w wb U)(hgd:GoodL w U)(hm1:(U.rl 1).length % 4=0)(hm2:(U.rl 2).length % 4=0)(hw2:2<=w.heap.size)(k1:KerAt W1 kb V)(k2:V.ker=bootK)(k3:V.dv=.slice none 0 0)(k4':∀k,V.fp kb k->w.heap.size<=k)(k5:Fr w W1 (fun _=>False))
 (r1:RD W2 ky ⟨bootR,[],fun _=>0,[]⟩ VR) (r4:Fr W1 W2 (fun _=>False)) (r5:∀k,VR.fq ky k->W1.heap.size<=k)
 (q3:LawAt Y wb (U.add 0 (.slice (some ⟨g,0,none⟩) ((U.rl 0).length+1) cap) (.pointer (some ⟨W2.heap.size,0,none⟩))))
 (q4:Fr (W2.alloc (.cells #[.pointer (some ⟨kb,0,none⟩),.pointer (some ⟨ky,0,none⟩)] 53)) Y (U.fp wb))
 (q5:∀k,(U.add 0 (.slice (some ⟨g,0,none⟩) ((U.rl 0).length+1) cap) (.pointer (some ⟨W2.heap.size,0,none⟩))).fp wb k->U.fp wb k\/(W2.alloc (.cells #[.pointer (some ⟨kb,0,none⟩),.pointer (some ⟨ky,0,none⟩)] 53)).heap.size<=k)
 (q6:∀k,(U.add 0 (.slice (some ⟨g,0,none⟩) ((U.rl 0).length+1) cap) (.pointer (some ⟨W2.heap.size,0,none⟩))).cb k->U.cb k\/1<=0/\(Value.pointer (some ⟨W2.heap.size,0,none⟩)).ownBlock=some k) :
 Booted w wb U (U.add 0 (.slice (some ⟨g,0,none⟩) ((U.rl 0).length+1) cap) (.pointer (some ⟨W2.heap.size,0,none⟩))) ⟨W2.heap.size,kb,ky,V,bootR,[],fun _=>0,[],VR⟩ Y:=by
 have s1:=k5.size;have s2:=r4.size;have fa:Fr W2 Y (U.fp wb):=((Fr.refl W2 (U.fp wb)).alloc _).step q4 (fun k hk=>.inl hk);have f1:Fr W1 Y (U.fp wb):=(r4.mono (fun _=>False.elim)).step fa (fun k hk=>.inl hk);have f0:Fr w Y (U.fp wb):=(k5.mono (fun _=>False.elim)).step f1 (fun k hk=>.inl hk);have hkd:KD W1 kb ⟨V.ker,[]⟩ V:=⟨k1,rfl,by rw [k3];exact World.ownsRow_nil _ _ _ _,fun k hk=>by rw [k3] at hk;cases hk⟩
 have k4:∀k,V.fd kb k->w.heap.size<=k:=fun k hk=>hk.elim (k4' k) (fun e=>by rw [k3] at e;cases e)
 have kl:∀k,V.fd kb k->k<W1.heap.size:=fun k hk=>hkd.fdLt hk
 have rl:∀k,VR.fq ky k->k<W2.heap.size:=fun k hk=>r1.fqLt hk
 have ul:∀k,U.fp wb k->k<w.heap.size:=fun k hk=>h.lt hk
 have hU:∀k,(U.add 0 (.slice (some ⟨g,0,none⟩) ((U.rl 0).length+1) cap) (.pointer (some ⟨W2.heap.size,0,none⟩))).fp wb k->U.fp wb k\/W2.heap.size<k:=fun k hk=>by
  rcases q5 k hk with e | e
  ·exact .inl e
  ·rw [World.size_alloc] at e;exact .inr e
 have hC:∀k,(U.add 0 (.slice (some ⟨g,0,none⟩) ((U.rl 0).length+1) cap) (.pointer (some ⟨W2.heap.size,0,none⟩))).cb k->U.cb k:=fun k hk=>by
  rcases q6 k hk with e | e
  ·exact e
  ·exact absurd e.1 (by decide)
 have hD:∀k,SideD.fp ⟨W2.heap.size,kb,ky,V,bootR,[],fun _=>0,[],VR⟩ k->w.heap.size<=k/\k<=W2.heap.size:=by
  rintro k (e | e | e)
  ·have e:k=W2.heap.size:=e;omega
  ·have:=k4 k e;have:=kl k e;omega
  ·have:=r5 k e;have:=rl k e;omega
 have hG:=hgd.frame f0 (fun k hk e=>h.cont k hk e);refine ⟨⟨q3,⟨hG.e,hG.d,hG.i,hG.bx,hG.b⟩,⟨?_,?_,?_,?_,fun k hk=>by have:=k4 k hk;omega,fun _=>⟨Int.le_refl 0,(by decide:(0:Int)<=4294967295)⟩,?_,?_,?_⟩,?_,hm1,hm2⟩,rfl,?_,f0,?_,hC,fun k hk=>(hD k hk).1⟩
 ·exact q4.same (heap_alloc_new _ _) (fun e=>by have:=ul _ e;simp only at this;omega)
 ·exact hkd.frame f1 (fun k hk e=>by have:=k4 k hk;have:=ul k e;omega)
 ·exact r1.frame fa (fun k hk e=>by have:=r5 k hk;have:=ul k e;omega)
 ·show Ag ⟨bootR,[],fun _=>0,[]⟩ ⟨V.ker,[]⟩
  rw [k2];exact ⟨boot_inv,rfl,fun _ _=>rfl,qag_nil (fun _=>rfl)⟩
 ·intro e;have:=kl _ e;simp only at this;omega
 ·intro e;have:=rl _ e;simp only at this;omega
 ·intro k e1 e2;have:=kl k e1;have:=r5 k e2;omega
 ·intro k hk;have h1:=hD k hk;refine ⟨fun e=>?_,fun e=>?_⟩
  ·rcases hU k e with e | e
   ·have:=ul k e;omega
   ·omega
  ·have:=h.clt k (hC k e);omega
 ·intro j hj;simp only [LawV.add];split
  ·rename_i e;subst e;simp
  ·omega
 ·intro k hk;rcases hU k hk with e | e
  ·exact .inl e
  ·exact .inr (by omega)
theorem booted_any (wb:Nat)(U:LawV)(w:World)(h:LawAt w wb U)(hgd:GoodL w U)(hm1:(U.rl 1).length % 4=0)(hm2:(U.rl 2).length % 4=0)(hl0:(U.rl 0).length<=1)(hgl:Glob w):
 Calls Tryz.prog 8 #[.pointer (some ⟨wb,0,none⟩)] w fun e w'=>e=.returned (.bool true)/\∃U' D,Booted w wb U U' D w':=by
 obtain ⟨i0,hi0,hz0,hz1,hz2⟩:=info_parts infoSide;go_enter Tryz.func8,Tryz.ntmps8
 go_upto_region 4 with (go_at_call 10;refine (boot_any _ hgl.n0 hgl.n1).mono ?_;rintro e W1 ⟨kb,V,rfl,k1,k2,k3,k4,k5⟩)
 have h1:=h.frame k5 (fun _ _=>id);have c1:W1.cell? ⟨wb,0,none⟩=some (U.rv 0):=aa (o:=0) h1.blk rfl;go_region_law
  (first
  |(go_simp;go_at_call 14;refine (rboot_ex _).mono ?_;rintro e W2 ⟨ky,VR,rfl,r1,r4,r5⟩
    have hF2:Fr W1 W2 (fun _=>False):=r4.drewl;have h2:=h1.frame hF2 (fun _ _=>id);have c2:W2.cell? ⟨wb,0,none⟩=some (U.rv 0):=aa (o:=0) h2.blk rfl;have o2:W2.ownsRow 0 49 1 (U.rv 0) (U.rl 0).length (U.rl 0):=h2.row 0 (by omega);have c3:=((Fr.refl W2 (fun _=>False)).alloc (.cells #[.pointer (some ⟨kb,0,none⟩),.pointer (some ⟨ky,0,none⟩)] 53)).cell c2 id;have c4:=(((Fr.refl W2 (fun _=>False)).alloc (.cells #[.pointer (some ⟨kb,0,none⟩),.pointer (some ⟨ky,0,none⟩)] 53)).alloc (.cells #[.pointer (some ⟨W2.heap.size,0,none⟩)] 49)).cell c2 id)
  |((refine step_append_lies _ rfl _ _ 24 rfl 0 49 i0 _ 1 8 Tryz.underlying24 hi0 hz0 hz1 hz2 rfl (by decide) (U.rv 0) _ _ rfl (World.ownsRow.alloc (World.ownsRow.alloc o2 _) _) ⟨_,0,none⟩ 1 1 [.pointer (some ⟨_,0,none⟩)] rfl rfl (side_news _ _ _ _) (by simp [Value.oneCell']) (by decide) (by unfold maxLen;omega) (by omega) (Nat.zero_le _) _ rfl ?_);intro g cap Y hown hg hat hlt
    obtain ⟨q1,q2,q3,q4,q5,q6⟩:=LawAt.add (h2.frame ((Fr.refl W2 (fun _=>False)).alloc (.cells #[.pointer (some ⟨kb,0,none⟩),.pointer (some ⟨ky,0,none⟩)] 53)) (fun _ _=>id)) (j:=0) (by decide) (v:=.pointer (some ⟨W2.heap.size,0,none⟩)) hg hown (hat.imp id (fun e=>by simpa using e)) (fun h=>absurd h (by decide))
    have q0:Y.cell? ⟨wb,0,none⟩=some (U.rv 0):=q1))
 all_goals go_wp2
 all_goals go_ret
 all_goals exact ⟨rfl,_,_,booted_end h hgd hm1 hm2 hgl.lt k1 k2 k3 k4 k5 r1 hF2 r5 q3 q4 q5 q6⟩
theorem all_start {w W1 W2 W3:World}{U1 U2:LawV}{D E:SideD}{l:List OpD}(f1:Fr (w.alloc (.cells (worldCells lawU0) 30)) W1 (fun _=>False))(b:Booted W1 w.heap.size lawU0 U1 D W2)(b2:Booted W2 w.heap.size U1 U2 E W3):PlayInv w w.heap.size U2 D E l.length 0 W3 U2 D E:=by
 have s1:=f1.size;rw [World.size_alloc] at s1;have s2:=b.fr.size;have hU1:∀k,U1.fp w.heap.size k->w.heap.size<=k:=fun k hk=>(b.fpU k hk).elim (fun e=>by have:=fp_nil e;omega) (fun e=>by omega)
 have hU2:∀k,U2.fp w.heap.size k->w.heap.size<=k:=fun k hk=>(b2.fpU k hk).elim (hU1 k) (fun e=>by omega)
 have hdis:∀k,D.fp k->¬E.fp k:=fun k hk e=>by have:=b.at_.sd.lt hk;have:=b2.lo k e;omega
 have hF:Fr w W2 (fun _=>False):=(((Fr.refl w (fun _=>False)).alloc _).step f1 (fun _=>False.elim)).step b.fr (fun k hk=>.inr (by have:=fp_nil hk;omega))
 refine ⟨⟨b2.at_.law,b2.at_.good,b.at_.sd.frame b2.fr (fun k hk=>(b.at_.sep k hk).1),fun k hk=>⟨fun e=>?_,fun e=>(b.at_.sep k hk).2 (b2.cbU k e)⟩,b2.at_.m1,b2.at_.m2⟩,b2.at_,hdis,hF.step b2.fr (fun k hk=>.inr (hU1 k hk)),?_,rfl,rfl,rfl,fun j hj=>?_,Nat.zero_le _⟩
 ·rcases b2.fpU k e with e | e
  ·exact (b.at_.sep k hk).1 e
  ·have:=b.at_.sd.lt hk;omega
 ·rintro k (e | e | e | e)
  ·exact hU2 k e
  ·exact (cb_nil (b.cbU k (b2.cbU k e))).elim
  ·have:=b.lo k e;omega
  ·have:=b2.lo k e;omega
 ·have h1:=b.len j hj;have h2:=b2.len j hj;have h3:(lawU0.rl j).length=0:=rfl;omega
theorem all_any (sv:Value)(l:List OpD)(w:World)(hgl:Glob w)(hS:ScriptAt w sv l):
 Calls Tryz.prog 6 #[sv] w fun e w'=>e=.returned (.bool true)/\Fr w w' (fun _=>False):=by
 go_enter Tryz.func6,Tryz.ntmps6
 go_upto_region 2 with fail
 have c1:=first_any (w.alloc (.cells (worldCells lawU0) 30)) (Glob.fr hgl ((Fr.refl _ _).alloc _));go_upto_region 3 with (go_at_call 7;refine c1.mono ?_;rintro e W1 ⟨rfl,f1⟩)
 clear c1;have hF1:=((Fr.refl w (fun _=>False)).alloc (.cells (worldCells lawU0) 30)).step f1 (fun _=>False.elim);have c2:=booted_any w.heap.size lawU0 W1 (law_nil (f1.same (heap_alloc_new _ _) id)) (good_nil W1) rfl rfl (by decide) (Glob.fr hgl hF1);go_upto_region 4 with (go_at_call 8;refine c2.mono ?_;rintro e W2 ⟨rfl,U1,D,b⟩)
 clear c2;have hF2:Fr w W2 (fun _=>False):=hF1.step b.fr (fun k hk=>.inr (by have:=fp_nil hk;omega))
 have hr1:U1.rl 0=[.pointer (some ⟨D.sb,0,none⟩)]:=b.r0;have c3:=booted_any w.heap.size U1 W2 b.at_.law b.at_.good b.at_.m1 b.at_.m2 (by rw [hr1];exact Nat.le_refl 1) (Glob.fr hgl hF2);go_upto_region 5 with (go_at_call 8;refine c3.mono ?_;rintro e W3 ⟨rfl,U2,E,b2⟩)
 clear c3;have c4:=play_all w w.heap.size U2 D E sv l W3 (all_start f1 b b2) hgl hS (by rw [b2.r0,hr1];rfl);go_wp2_with (go_at_call 9;refine c4.mono ?_;rintro e W4 ⟨rfl,f4⟩)
 go_ret;exact ⟨rfl,f4⟩
end Go.Proofs.YtdpjgflemddekaaGreatDoor
