/- The code: setRoot. -/
import Derived.Test.YtdpjgflemddekaaGreatDoorMWordA
import Derived.Test.YtdpjgflemddekaaGreatDoorMCommC
set_option maxRecDepth 100000
set_option maxHeartbeats 4000000
namespace Go.Proofs.YtdpjgflemddekaaGreatDoor
open Go.RowKit
theorem a22 (o:Option KCap):∃(tf:Bool) (x0 x1 x2:Int),(∀W,(Instr.typeAssert (jf o) 79 127 true).run Tryz.prog W=.ok (.tuple #[.agg #[.int .i64 x0,.int .i64 x1,.int .i64 x2],.bool tf]) W)/\
 ((tf=true/\o=some (.task x0 x1 x2))\/(tf=false/\∀b n r,o≠some (.task b n r))):=by
 cases o with
 | none=>exact ⟨false,0,0,0,az4,.inr ⟨rfl,fun _ _ _ e=>by cases e⟩⟩
 | some k=>
  cases k with
  | task b n r=>exact ⟨true,b,n,r,o6 _,.inl ⟨rfl,rfl⟩⟩
  | untyped b n m=>exact ⟨false,0,0,0,mm _,.inr ⟨rfl,fun _ _ _ e=>by cases e⟩⟩
  | node b n m=>exact ⟨false,0,0,0,ab5 _,.inr ⟨rfl,fun _ _ _ e=>by cases e⟩⟩
  | frame b n m=>exact ⟨false,0,0,0,mh _,.inr ⟨rfl,fun _ _ _ e=>by cases e⟩⟩
  | endpoint b n m g=>exact ⟨false,0,0,0,ae2 _,.inr ⟨rfl,fun _ _ _ e=>by cases e⟩⟩
theorem a44 (o:Option KCap):∃(tf:Bool) (x0 x1 x2:Int),(∀W,(Instr.typeAssert (jf o) 79 119 true).run Tryz.prog W=.ok (.tuple #[.agg #[.int .i64 x0,.int .i64 x1,.int .i64 x2],.bool tf]) W)/\
 ((tf=true/\o=some (.node x0 x1 x2))\/(tf=false/\∀b n r,o≠some (.node b n r))):=by
 cases o with
 | none=>exact ⟨false,0,0,0,af8,.inr ⟨rfl,fun _ _ _ e=>by cases e⟩⟩
 | some k=>
  cases k with
  | node b n r=>exact ⟨true,b,n,r,ly _,.inl ⟨rfl,rfl⟩⟩
  | untyped b n m=>exact ⟨false,0,0,0,jw _,.inr ⟨rfl,fun _ _ _ e=>by cases e⟩⟩
  | task b n m=>exact ⟨false,0,0,0,o7 _,.inr ⟨rfl,fun _ _ _ e=>by cases e⟩⟩
  | frame b n m=>exact ⟨false,0,0,0,j_ _,.inr ⟨rfl,fun _ _ _ e=>by cases e⟩⟩
  | endpoint b n m g=>exact ⟨false,0,0,0,jm _,.inr ⟨rfl,fun _ _ _ e=>by cases e⟩⟩
def aj4 (K:a_)(root:Int)(c:Cl)(b:Int):Option (Int×a_):=
 match az K root c.to with
 | none=>none
 | some s'=>match K.held s' with
  | some (.node b' _ r')=>if gp r' 4=0 then some (5,K) else some (0,setThr K b ⟨(gy K b).state,b',(gy K b).value,(gy K b).badge,(gy K b).err⟩)
  | _=>some (3,K)
theorem a54 (kb ub:Nat)(S:KS)(V:ah)(c:Cl)(av tv:Value)(th root:Int)(bv:Value)(w:World)(h:s5 w kb ub S V c av tv bv th root):
 Calls Tryz.prog 44 #[.pointer (some ⟨ub,0,none⟩)] w fun e w'=>a90 w kb V ((dj S.K (ue S.K root c)).1,{S with K:=(dj S.K (ue S.K root c)).2}) e w':=by
 have hu:=h.turn;have hV:V.ker=S.K:=h.kd.kd.eq;have k0:=h.turn.ck;have k2:=h.turn.cat;have k3:=h.turn.cto;have ch:=h.kd.kd.ker.ch;have cr:=h.kd.kd.ker.cr;have hfind:∀W,Fr w W (fun _=>False)->Calls Tryz.prog 59 #[.pointer (some ⟨ub,0,none⟩),av] W fun e w'=>e=bd (az S.K root c.at_)/\Fr W w' (fun _=>False):=by
  intro W hW;rw [<- hV];exact ph V kb ub c av tv _ av th root c.at_ W (h.kd.kd.ker.frame hW (fun _ _=>id)) (hu.frame hW id) (h.at_.fr hW (fun _ _=>id)) h.al h.ac
 have hfind2:∀W,Fr w W (fun _=>False)->Calls Tryz.prog 59 #[.pointer (some ⟨ub,0,none⟩),tv] W fun e w'=>e=bd (az S.K root c.to)/\Fr W w' (fun _=>False):=by
  intro W hW;rw [<- hV];exact ph V kb ub c av tv _ tv th root c.to W (h.kd.kd.ker.frame hW (fun _ _=>id)) (hu.frame hW id) (h.ti.fr hW (fun _ _=>id)) h.tl h.tc
 have hlook:∀s W,Fr w W (fun _=>False)->(Instr.lookup 59 (.map (some V.hb)) (.agg #[.int .i64 s.node,.int .i64 s.index]) false).run Tryz.prog W=.ok (jf (S.K.held s)) W:=by
  intro s W hW;have:=be (h.kd.kd.ker.frame hW (fun _ _=>id)) s false;rw [hV] at this;simpa only [Bool.false_eq_true,if_false] using this
 have hlu:=World.block_lt_of_cell? _ _ k0;have hlk:=World.block_lt_of_cell? _ _ ch;generalize hA:ue S.K root c=ans;have HA:Hid (ue S.K root c=ans):=hA;clear hA;go_enter Tryz.func44,Tryz.ntmps44
 go_upto_region 1 with fail
 cases hfi:az S.K root c.at_ with
 | none=>
  have ha:Hid (ans=none):=by show _=_;rw [<- HA.out];unfold ue;rw [hfi]
  rw [hfi] at hfind;clear HA hfi;have d0:Fr w w.drew (fun _=>False):=(Fr.refl _ _).drew;have d1:Fr w (w.alloc (.cells #[.int .i64 0,.int .i64 0,.int .i64 0] 127)).drew (fun _=>False):=((Fr.refl _ _).alloc _).drew;have e1:=World.new_ne w _ k0;have e2:=World.new_ne w _ ch;clear k3 cr hfind2 hlook hu hV;go_region_dies
  all_goals (
   refine (hfind _ (by first | exact d0 | exact d1)).mono ?_;rintro e W2 ⟨rfl,hf2⟩;unfold bd gup;have hF:Fr w W2 (fun _=>False):=by first | exact d0.step hf2 (fun _=>False.elim) | exact d1.step hf2 (fun _=>False.elim)
   clear hf2 d0 d1 k0 k2 ch hfind;go_wp2;exact ⟨rfl,.inr (by rw [ha.out];rfl),by rw [ha.out];exact h.kd.stay hF⟩)
 | some s=>
  rw [hfi] at hfind;simp only [bd,jx] at hfind;obtain ⟨tf,x0,x1,x2,hta,hcase⟩:=a22 (S.K.held s);have ha:Hid (ans=if tf=true then (if gp x2 4=0 then some (5,S.K) else aj4 S.K root c x0) else some (3,S.K)):=by
   show _=_;rw [<- HA.out];unfold ue aj4;rw [hfi];rcases hcase with ⟨rfl,hk⟩ | ⟨rfl,hk⟩
   ·simp only [hk];rfl
   ·rw [if_neg (by decide)];simp only
  clear HA hfi hcase;have hlk1:=hlook s;generalize jf (S.K.held s)=hv at hlk1 hta;clear hu;go_cut [4,5] (fun v4 v5 wx=>v5=.bool tf/\∃xb,v4=.pointer (some ⟨xb,0,none⟩)/\Fr w wx (fun _=>False)/\w.heap.size<=xb/\wx.heap[xb]?=some (.cells #[.int .i64 x0,.int .i64 x1,.int .i64 x2] 127 (0,0)))
  case first=>
   clear hlook hfind2;go_region_held3 (fun w'=>w'.cell? ⟨ub,0,none⟩=some (.pointer (some ⟨kb,0,none⟩))/\w'.cell? ⟨ub,2,none⟩=some av/\w'.cell? ⟨kb,1024,none⟩=some (.map (some V.hb))) (first | go_keep | (simp [go_sem,r0,r2,r3, *];done))
    (first
    |(go_at_call 59;refine (hfind _ (by first | exact (Fr.refl _ _).drew | exact ((Fr.refl _ _).alloc _).drew)).mono ?_;rintro e W2 ⟨rfl,hf2⟩
      have hF2:Fr w W2 (fun _=>False):=by first | exact hf2.drewl | exact hf2.drewl.of_alloc
      have r0:=hF2.cell k0 id;have r2:=hF2.cell k2 id;have r3:=hF2.cell ch id;have hl1:=hlk1 W2 hF2;have hl2:=hlk1 _ (Fr.alloc hF2 (.cells #[.int .i64 0,.int .i64 0,.int .i64 0] 127));try (have qb:=pm (o:=.cells #[.int .i64 0,.int .i64 0,.int .i64 0] 127) hf2.drewl;have qb0:=aa (o:=0) qb rfl;have qb1:=aa (o:=1) qb rfl;have qb2:=aa (o:=2) qb rfl;have qz:∀o,W2.frozen? ⟨w.heap.size,o,none⟩=false:=fun o=>ab qb;have qn1:w.heap.size≠ub:=Nat.ne_of_gt (World.block_lt_of_cell? _ _ k0);have qn2:w.heap.size≠kb:=Nat.ne_of_gt (World.block_lt_of_cell? _ _ ch))))
   all_goals go_wp2
   all_goals go_meet
   all_goals first
    | exact ⟨rfl,W2.heap.size,rfl,Fr.alloc hF2 _,hF2.size,heap_alloc_new _ _⟩
    | exact ⟨rfl,w.heap.size,rfl,((hF2.setCell (.inr (Nat.le_refl _)) _ _).setCell (.inr (Nat.le_refl _)) _ _).setCell (.inr (Nat.le_refl _)) _ _,Nat.le_refl _,bt8 _ _ _ qb⟩
  case rest=>
   rename World=>wd
   obtain ⟨rfl,xb,rfl,hfc,hxb,hbx⟩:=hcut;clear hfind hlk1 hta;have d0:=hfc.cell k0 id;have d3:=hfc.cell k3 id;have dh:=hfc.cell ch id;have x2c:=aa (o:=2) hbx rfl;cases tf with
   | false=>
    clear hfind2 hlook;go_wp2;go_ret2;exact ⟨.inl (by rw [ha.out];rfl),by rw [ha.out];exact h.kd.stay hfc⟩
   | true=>
    cases hd:decide (gp x2 4=0) with
    | true=>
     have h0:gp x2 4=0:=of_decide_eq_true hd;have ha2:Hid (ans=some (5,S.K)):=by show _=_;rw [ha.out,if_pos rfl,if_pos h0]
     have hq:(bits BinOp.and IntKind.i64 x2 4==0)=true:=by simpa [gp] using h0
     clear hd h0 ha hfind2 hlook;go_wp2;go_ret2;exact ⟨.inl (by rw [ha2.out];rfl),by rw [ha2.out];exact h.kd.stay hfc⟩
    | false=>
     have h0:¬gp x2 4=0:=of_decide_eq_false hd;have hq:(bits BinOp.and IntKind.i64 x2 4==0)=false:=by simpa [gp] using h0
     have ha2:Hid (ans=aj4 S.K root c x0):=by show _=_;rw [ha.out,if_pos rfl,if_neg h0]
     clear hd h0 ha;go_upto_region 6 with fail
     clear k0 k2 k3 ch;have l1:=hfc.size;cases hfi:az S.K root c.to with
     | none=>
      have ha3:Hid (ans=none):=by show _=_;rw [ha2.out];unfold aj4;rw [hfi]
      rw [hfi] at hfind2;clear ha2 hfi;have f0:Fr w wd.drew (fun _=>False):=hfc.drew;have f1:Fr w (wd.alloc (.cells #[.int .i64 0,.int .i64 0,.int .i64 0] 119)).drew (fun _=>False):=(hfc.alloc _).drew;have e1:=World.new_ne wd _ d0;have e2:=World.new_ne wd _ dh;have n1:=World.block_lt_of_cell? _ _ d0;have n2:=World.block_lt_of_cell? _ _ dh;clear cr hlook hV hbx x2c hfc;go_region_dies
      all_goals (
       refine (hfind2 _ (by first | exact f0 | exact f1)).mono ?_;rintro e W2 ⟨rfl,hf2⟩;unfold bd gup;have hF:Fr w W2 (fun _=>False):=by first | exact f0.step hf2 (fun _=>False.elim) | exact f1.step hf2 (fun _=>False.elim)
       clear hf2 f0 f1 d0 d3 dh hfind2;go_wp2;exact ⟨rfl,.inr (by rw [ha3.out];rfl),by rw [ha3.out];exact h.kd.stay hF⟩)
     | some s'=>
      rw [hfi] at hfind2;simp only [bd,jx] at hfind2;obtain ⟨tf,y0,y1,y2,hta,hcase⟩:=a44 (S.K.held s');have ha:Hid (ans=if tf=true then (if gp y2 4=0 then some (5,S.K) else some (0,setThr S.K x0 ⟨(gy S.K x0).state,y0,(gy S.K x0).value,(gy S.K x0).badge,(gy S.K x0).err⟩)) else some (3,S.K)):=by
       show _=_;rw [ha2.out];unfold aj4;rw [hfi];rcases hcase with ⟨rfl,hk⟩ | ⟨rfl,hk⟩
       ·simp only [hk];rfl
       ·rw [if_neg (by decide)];simp only
      clear ha2 hfi hcase;have hlk1:=hlook s';generalize jf (S.K.held s')=hv2 at hlk1 hta;clear hlook;have n1:=World.block_lt_of_cell? _ _ d0;have n2:=World.block_lt_of_cell? _ _ dh;go_cut [5,6] (fun v5 v6 wx=>v5=.bool tf/\∃yb,v6=.pointer (some ⟨yb,0,none⟩)/\Fr wd wx (fun _=>False)/\wd.heap.size<=yb/\wx.heap[yb]?=some (.cells #[.int .i64 y0,.int .i64 y1,.int .i64 y2] 119 (0,0)))
      case first=>
       go_region_held3 (fun w'=>w'.cell? ⟨ub,0,none⟩=some (.pointer (some ⟨kb,0,none⟩))/\w'.cell? ⟨ub,3,none⟩=some tv/\w'.cell? ⟨kb,1024,none⟩=some (.map (some V.hb))) (first | go_keep | (simp [go_sem,r0,r2,r3, *];done))
        (first
        |(go_at_call 59;refine (hfind2 _ (by first | exact hfc.drew | exact (hfc.alloc _).drew)).mono ?_;rintro e W2 ⟨rfl,hf2⟩
          have hF2:Fr wd W2 (fun _=>False):=by first | exact hf2.drewl | exact hf2.drewl.of_alloc
          have r0:=hF2.cell d0 id;have r2:=hF2.cell d3 id;have r3:=hF2.cell dh id;have hl1:=hlk1 W2 (hfc.step hF2 (fun _=>False.elim));have hl2:=hlk1 _ (Fr.alloc (hfc.step hF2 (fun _=>False.elim)) (.cells #[.int .i64 0,.int .i64 0,.int .i64 0] 119));try (have qb:=pm (o:=.cells #[.int .i64 0,.int .i64 0,.int .i64 0] 119) hf2.drewl;have qb0:=aa (o:=0) qb rfl;have qb1:=aa (o:=1) qb rfl;have qb2:=aa (o:=2) qb rfl;have qz:∀o,W2.frozen? ⟨wd.heap.size,o,none⟩=false:=fun o=>ab qb;have qn1:wd.heap.size≠ub:=Nat.ne_of_gt (World.block_lt_of_cell? _ _ d0);have qn2:wd.heap.size≠kb:=Nat.ne_of_gt (World.block_lt_of_cell? _ _ dh))))
       all_goals go_wp2
       all_goals go_meet
       all_goals first
        | exact ⟨rfl,W2.heap.size,rfl,Fr.alloc hF2 _,hF2.size,heap_alloc_new _ _⟩
        | exact ⟨rfl,wd.heap.size,rfl,((hF2.setCell (.inr (Nat.le_refl _)) _ _).setCell (.inr (Nat.le_refl _)) _ _).setCell (.inr (Nat.le_refl _)) _ _,Nat.le_refl _,bt8 _ _ _ qb⟩
      case rest=>
       rename World=>we
       obtain ⟨rfl,yb,rfl,hfy,hyb,hby⟩:=hcut;clear hfind2 hlk1 hta;have hF:=hfc.step hfy (fun _=>False.elim);have y2c:=aa (o:=2) hby rfl;cases tf with
       | false=>
        go_wp2;go_ret2;exact ⟨.inl (by rw [ha.out];rfl),by rw [ha.out];exact h.kd.stay hF⟩
       | true=>
        cases hd:decide (gp y2 4=0) with
        | true=>
         have h0:gp y2 4=0:=of_decide_eq_true hd;have ha2:Hid (ans=some (5,S.K)):=by show _=_;rw [ha.out,if_pos rfl,if_pos h0]
         have hq2:(bits BinOp.and IntKind.i64 y2 4==0)=true:=by simpa [gp] using h0
         clear hd h0 ha;go_wp2;go_ret2;exact ⟨.inl (by rw [ha2.out];rfl),by rw [ha2.out];exact h.kd.stay hF⟩
        | false=>
         have h0:¬gp y2 4=0:=of_decide_eq_false hd;have hq2:(bits BinOp.and IntKind.i64 y2 4==0)=false:=by simpa [gp] using h0
         have h3:=h.frame hF;have hbx3:=hfy.same hbx id;have x0c:=aa (o:=0) hbx3 rfl;have e0:=h3.turn.ck;have er:=h3.kd.kd.ker.cr;have hl1:=vu (h3.kd.kd.frame ((Fr.refl we (fun _=>False)).drew) (fun _ _=>id)) x0;have hl2:=vu (h3.kd.kd.frame (((Fr.refl we (fun _=>False)).alloc (.cells #[.int .i64 0,.int .i64 0,.int .i64 0,.int .i64 0,.int .i64 0] 82)).drew) (fun _ _=>id)) x0;have ha2:Hid (ans=some (0,setThr S.K x0 ⟨(gy S.K x0).state,y0,(gy S.K x0).value,(gy S.K x0).badge,(gy S.K x0).err⟩)):=by show _=_;rw [ha.out,if_pos rfl,if_neg h0]
         generalize gy S.K x0=t0 at hl1 hl2 ha2;simp only [oz.val] at hl1 hl2;have m1:=World.block_lt_of_cell? _ _ e0;have m2:=World.block_lt_of_cell? _ _ er;have m3:=World.block_lt_of_cell? _ _ x0c;clear hd h0 ha hfc d0 d3 dh hbx x2c n1 n2 hV;go_upto_region 11 with fail
         go_cut [7] (fun v7 wx=>∃zb,v7=.pointer (some ⟨zb,0,none⟩)/\Fr we wx (fun _=>False)/\we.heap.size<=zb/\wx.heap[zb]?=some (.cells #[.int .i64 t0.state,.int .i64 t0.root,.int .i64 t0.value,.int .i64 t0.badge,.int .i64 t0.err] 82 (0,0)))
         case first=>
          go_region_held3 (fun w'=>w'.cell? ⟨ub,0,none⟩=some (.pointer (some ⟨kb,0,none⟩))/\w'.cell? ⟨kb,1028,none⟩=some (.map (some V.rb))/\w'.cell? ⟨xb,0,none⟩=some (.int .i64 x0)) (go_keep) (fail)
          all_goals go_wp2
          all_goals go_meet
          all_goals exact ⟨we.heap.size,rfl,((Fr.refl _ _).alloc _).drew,Nat.le_refl _,heap_alloc_new _ _⟩
         case rest=>
          obtain ⟨zb,rfl,hfz,hzb,hbz⟩:=hcut;clear hl1 hl2;have y0c:=aa (o:=0) (hfz.same hby id) rfl;have z1c:=aa (o:=1) hbz rfl;have zz:∀o,wc.frozen? ⟨zb,o,none⟩=false:=fun o=>ab hbz
          go_upto_region 13 with fail
          have hbw:=ak wc zb 1 (.int .i64 y0) hbz;have hfw:Fr we (wc.setCell ⟨zb,1,none⟩ (.int .i64 y0)) (fun _=>False):=hfz.setCell (.inr hzb) _ _;generalize wc.setCell ⟨zb,1,none⟩ (.int .i64 y0)=W5 at hbw hfw ⊢;have hFw:=hF.step hfw (fun _=>False.elim);have hkd:=h.kd.kd.frame hFw.drew (fun _ _=>id);obtain ⟨W6,hr6,hm6,hf6,hs6⟩:=hkd.ker.thr.put_run (P:=Tryz.prog) ku Tryz.underlying63 x0 ⟨t0.state,y0,t0.value,t0.badge,t0.err⟩;simp only [ke,oz.val] at hr6;have hk6:=hkd.setThr hm6 hf6;have hout:ic w kb V ⟨setThr S.K x0 ⟨t0.state,y0,t0.value,t0.badge,t0.err⟩,S.D⟩ W6:=⟨_,hk6,(hFw.drew.mono (fun _=>False.elim)).step (hf6.mono (fun k (e:k=V.rb)=>(.inl (.inr (.inr (.inr (.inl e)))):V.fd kb k))) (fun _ e=>.inl e),fun k e=>.inl e⟩
          have q0:=hfw.cell e0 id;have qr:=hfw.cell er id;have qx:=hfw.cell x0c id;obtain ⟨v0,v1,v2,v3,v4⟩:=a80 hbw;clear hkd hm6 hf6 hs6 hk6 hfw hbw hbz hfz hFw hby hbx3 h3 hfy hF;go_region_law (fail)
          all_goals go_wp2
          all_goals go_ret2
          all_goals exact ⟨.inl (by rw [ha2.out];rfl),by rw [ha2.out];exact h.kd.out hout⟩
end Go.Proofs.YtdpjgflemddekaaGreatDoor
