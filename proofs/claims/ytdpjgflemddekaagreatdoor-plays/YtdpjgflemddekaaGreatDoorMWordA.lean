/- The code: wordOfFrame. -/
import Derived.Test.YtdpjgflemddekaaGreatDoorMEndpA
set_option maxRecDepth 100000
set_option maxHeartbeats 2000000
namespace Go.Proofs.YtdpjgflemddekaaGreatDoor
open Go.RowKit
def ab_ (r:Option (Int×Int))(e:Ending):Prop:=
 match r with
 | none=>e=gup 2
 | some (x,n)=>e=.returned (.tuple #[.int .i64 n,.int .i64 x])
theorem au5 (o:Option KCap):∃(tf:Bool) (x0 x1 x2:Int),(∀W,(Instr.typeAssert (jf o) 79 128 true).run Tryz.prog W=.ok (.tuple #[.agg #[.int .i64 x0,.int .i64 x1,.int .i64 x2],.bool tf]) W)/\
 ((tf=true/\o=some (.frame x0 x1 x2))\/(tf=false/\∀b n r,o≠some (.frame b n r))):=by
 cases o with
 | none=>exact ⟨false,0,0,0,au9,.inr ⟨rfl,fun _ _ _ e=>by cases e⟩⟩
 | some k=>
  cases k with
  | frame b n r=>exact ⟨true,b,n,r,kp _,.inl ⟨rfl,rfl⟩⟩
  | untyped b n m=>exact ⟨false,0,0,0,ui _,.inr ⟨rfl,fun _ _ _ e=>by cases e⟩⟩
  | node b n m=>exact ⟨false,0,0,0,ap_ _,.inr ⟨rfl,fun _ _ _ e=>by cases e⟩⟩
  | task b n m=>exact ⟨false,0,0,0,ap7 _,.inr ⟨rfl,fun _ _ _ e=>by cases e⟩⟩
  | endpoint b n m g=>exact ⟨false,0,0,0,aa4 _,.inr ⟨rfl,fun _ _ _ e=>by cases e⟩⟩
theorem bt8 {W:World}{B:Nat}{t:TypeId}{a0 a1 a2:Value}(v0 v1 v2:Value)(h:W.heap[B]?=some (.cells #[a0,a1,a2] t (0,0))):
 (((W.setCell ⟨B,0,none⟩ v0).setCell ⟨B,1,none⟩ v1).setCell ⟨B,2,none⟩ v2).heap[B]?=some (.cells #[v0,v1,v2] t (0,0)):=by
 have h1:=ak _ B 0 v0 h;have h2:=ak _ B 1 v1 h1;have h3:=ak _ B 2 v2 h2;exact h3
theorem cm.capB {S:KS}(h:cm S){s:Slot}{c:KCap}(hc:S.K.held s=some c):0<=c.base/\0<=c.bits/\c.bits<=10/\c.base+pw c.bits.toNat<=1024:=by
 obtain ⟨R,h⟩:=h;have:=h.core.cap s c hc;exact ⟨this.1,this.2.1,this.2.2.1,this.2.2.2.1⟩
theorem ao_ (V:ah)(kb ub:Nat)(c:Cl)(av tv bv:Value)(th root right:Int)(w:World)(h:de w kb ub V c av tv bv th root)
 (hB:∀s b n r,V.ker.held s=some (.frame b n r)->0<=b/\0<=n/\n<=10/\b+pw n.toNat<=1024) :
 Calls Tryz.prog 77 #[.pointer (some ⟨ub,0,none⟩),.int .i64 right] w fun e w'=>ab_ (el V.ker root c right) e/\Fr w w' (fun _=>False):=by
 have hu:=h.turn;have k0:w.cell? ⟨ub,0,none⟩=some (.pointer (some ⟨kb,0,none⟩)):=aa (o:=0) hu rfl;have k2:w.cell? ⟨ub,2,none⟩=some av:=aa (o:=2) hu rfl;have k10:w.cell? ⟨ub,10,none⟩=some (.int .i64 c.offset):=aa (o:=10) hu rfl;have ch:=h.ker.ch;have hfind:∀W,Fr w W (fun _=>False)->Calls Tryz.prog 59 #[.pointer (some ⟨ub,0,none⟩),av] W fun e w'=>e=bd (az V.ker root c.at_)/\Fr W w' (fun _=>False):=by
  intro W hW;exact ph V kb ub c av tv bv av th root c.at_ W (h.ker.frame hW (fun _ _=>id)) (hu.frame hW id) (h.at_.fr hW (fun _ _=>id)) h.al h.ac
 have hlu:=World.block_lt_of_cell? _ _ k0;have hlk:=World.block_lt_of_cell? _ _ ch;generalize hA:el V.ker root c right=ans;have HA:Hid (el V.ker root c right=ans):=hA;clear hA;go_enter Tryz.func77,Tryz.ntmps77
 go_upto_region 1 with fail
 cases hfi:az V.ker root c.at_ with
 | none=>
  have ha:Hid (ans=none):=by show _=_;rw [<- HA.out];unfold el;rw [hfi]
  rw [hfi] at hfind;clear HA hfi;have d0:Fr w w.drew (fun _=>False):=(Fr.refl _ _).drew;have d1:Fr w (w.alloc (.cells #[.int .i64 0,.int .i64 0,.int .i64 0] 128)).drew (fun _=>False):=((Fr.refl _ _).alloc _).drew;have e1:=World.new_ne w _ k0;have e2:=World.new_ne w _ ch;go_region_dies
  all_goals (
   refine (hfind _ (by first | exact d0 | exact d1)).mono ?_;rintro e W2 ⟨rfl,hf2⟩;unfold bd gup;have hF:Fr w W2 (fun _=>False):=by first | exact d0.step hf2 (fun _=>False.elim) | exact d1.step hf2 (fun _=>False.elim)
   clear hf2 d0 d1 k0 k2 k10 ch hfind;go_wp2;exact ⟨rfl,by rw [ha.out];rfl,hF⟩)
 | some s=>
  rw [hfi] at hfind;simp only [bd,jx] at hfind;obtain ⟨tf,x0,x1,x2,hta,hcase⟩:=au5 (V.ker.held s);have hbb:tf=true->0<=x0/\0<=x1/\x1<=10/\x0+pw x1.toNat<=1024:=fun e=>by
   rcases hcase with ⟨_,hk⟩ | ⟨e2,_⟩
   ·exact hB s _ _ _ hk
   ·rw [e] at e2;cases e2
  have ha:Hid (ans=if tf=true then (if gp x2 right=0 then some (5,0) else if c.offset<0\/pw x1.toNat<=c.offset then some (7,0) else some (0,x0+c.offset)) else some (3,0)):=by
   show _=_;rw [<- HA.out];unfold el;rw [hfi];rcases hcase with ⟨rfl,hk⟩ | ⟨rfl,hk⟩
   ·simp only [hk];rfl
   ·rw [if_neg (by decide)];simp only
  clear HA hfi hcase hB;have hlook:∀W,Fr w W (fun _=>False)->(Instr.lookup 59 (.map (some V.hb)) (.agg #[.int .i64 s.node,.int .i64 s.index]) false).run Tryz.prog W=.ok (jf (V.ker.held s)) W:=by
   intro W hW;have:=be (h.ker.frame hW (fun _ _=>id)) s false;simpa only [Bool.false_eq_true,if_false] using this
  generalize jf (V.ker.held s)=hv at hlook hta;clear h hu;go_cut [6,7] (fun v6 v7 wx=>v7=.bool tf/\∃xb,v6=.pointer (some ⟨xb,0,none⟩)/\Fr w wx (fun _=>False)/\w.heap.size<=xb/\wx.heap[xb]?=some (.cells #[.int .i64 x0,.int .i64 x1,.int .i64 x2] 128 (0,0)))
  case first=>
   go_region_held3 (fun w'=>w'.cell? ⟨ub,0,none⟩=some (.pointer (some ⟨kb,0,none⟩))/\w'.cell? ⟨ub,2,none⟩=some av/\w'.cell? ⟨kb,1024,none⟩=some (.map (some V.hb))) (first | go_keep | (simp [go_sem,r0,r2,r3, *];done))
    (first
    |(go_at_call 59;refine (hfind _ (by first | exact (Fr.refl _ _).drew | exact ((Fr.refl _ _).alloc _).drew)).mono ?_;rintro e W2 ⟨rfl,hf2⟩
      have hF2:Fr w W2 (fun _=>False):=by first | exact hf2.drewl | exact hf2.drewl.of_alloc
      have r0:=hF2.cell k0 id;have r2:=hF2.cell k2 id;have r3:=hF2.cell ch id;have hl1:=hlook W2 hF2;have hl2:=hlook _ (Fr.alloc hF2 (.cells #[.int .i64 0,.int .i64 0,.int .i64 0] 128));try (have qb:=pm (o:=.cells #[.int .i64 0,.int .i64 0,.int .i64 0] 128) hf2.drewl;have qb0:=aa (o:=0) qb rfl;have qb1:=aa (o:=1) qb rfl;have qb2:=aa (o:=2) qb rfl;have qz:∀o,W2.frozen? ⟨w.heap.size,o,none⟩=false:=fun o=>ab qb;have qn1:w.heap.size≠ub:=Nat.ne_of_gt (World.block_lt_of_cell? _ _ k0);have qn2:w.heap.size≠kb:=Nat.ne_of_gt (World.block_lt_of_cell? _ _ ch))))
   all_goals go_wp2
   all_goals go_meet
   all_goals first
    | exact ⟨rfl,W2.heap.size,rfl,Fr.alloc hF2 _,hF2.size,heap_alloc_new _ _⟩
    | exact ⟨rfl,w.heap.size,rfl,((hF2.setCell (.inr (Nat.le_refl _)) _ _).setCell (.inr (Nat.le_refl _)) _ _).setCell (.inr (Nat.le_refl _)) _ _,Nat.le_refl _,bt8 _ _ _ qb⟩
  case rest=>
   obtain ⟨rfl,xb,rfl,hfc,hxb,hbx⟩:=hcut;clear hfind hlook hta;have d0:=hfc.cell k0 id;have d10:=hfc.cell k10 id;have x0c:=aa (o:=0) hbx rfl;have x1c:=aa (o:=1) hbx rfl;have x2c:=aa (o:=2) hbx rfl;clear k0 k2 k10 ch;cases tf with
   | false=>
    go_wp2;go_ret2;exact ⟨by rw [ha.out];rfl,hfc⟩
   | true=>
    obtain ⟨b0,n0,n1,bn⟩:=hbb rfl;cases hd:decide (gp x2 right=0) with
    | true=>
     have h0:gp x2 right=0:=of_decide_eq_true hd;have ha2:Hid (ans=some (5,0)):=by show _=_;rw [ha.out,if_pos rfl,if_pos h0]
     have hq:(bits BinOp.and IntKind.i64 x2 right==0)=true:=by simpa [gp] using h0
     clear hd h0 ha;go_wp2;go_ret2;exact ⟨by rw [ha2.out];rfl,hfc⟩
    | false=>
     have h0:¬gp x2 right=0:=of_decide_eq_false hd;have hq:(bits BinOp.and IntKind.i64 x2 right==0)=false:=by simpa [gp] using h0
     have ha2:Hid (ans=if c.offset<0\/pw x1.toNat<=c.offset then some (7,0) else some (0,x0+c.offset)):=by show _=_;rw [ha.out,if_pos rfl,if_neg h0]
     clear hd h0 ha;go_upto_region 6 with fail
     cases hneg:decide (c.offset<0) with
     | true=>
      have ha3:Hid (ans=some (7,0)):=by show _=_;rw [ha2.out,if_pos (.inl (of_decide_eq_true hneg))]
      clear ha2;go_quiet (fail)
      go_wp2;go_ret2;exact ⟨by rw [ha3.out];rfl,hfc.drewN _⟩
     | false=>
      have hof:0<=c.offset:=by have:=of_decide_eq_false hneg;omega
      cases hge:decide (pw x1.toNat<=c.offset) with
      | true=>
       have ha3:Hid (ans=some (7,0)):=by show _=_;rw [ha2.out,if_pos (.inr (of_decide_eq_true hge))]
       have hgg:decide (c.offset >= pw x1.toNat)=true:=hge;clear ha2;go_region_held3 (fun w'=>w'.cell? ⟨ub,0,none⟩=some (.pointer (some ⟨kb,0,none⟩))/\w'.cell? ⟨ub,10,none⟩=some (.int .i64 c.offset)/\w'.cell? ⟨xb,0,none⟩=some (.int .i64 x0)/\w'.cell? ⟨xb,1,none⟩=some (.int .i64 x1)) (go_keep)
        ((go_at_call 56;refine (wm x0 x1 _ n0 (by omega)).mono ?_;rintro e W1 ⟨rfl,hf1⟩
          have hF1:Fr wc W1 (fun _=>False):=hf1.drewl;have r0:=hF1.cell d0 id;have r2:=hF1.cell d10 id;have r3:=hF1.cell x0c id;have r4:=hF1.cell x1c id))
       all_goals go_wp2
       all_goals go_ret2
       all_goals exact ⟨by rw [ha3.out];rfl,hfc.step hF1 (fun _=>False.elim)⟩
      | false=>
       have ha3:Hid (ans=some (0,x0+c.offset)):=by show _=_;rw [ha2.out,if_neg (by have:=of_decide_eq_false hneg;have:=of_decide_eq_false hge;omega)]
       have hwr:IntKind.i64.wrap (x0+c.offset)=x0+c.offset:=by have:=of_decide_eq_false hge;simp [IntKind.wrap,IntKind.signed,IntKind.bits];omega
       clear ha2;go_region_held3 (fun w'=>w'.cell? ⟨ub,0,none⟩=some (.pointer (some ⟨kb,0,none⟩))/\w'.cell? ⟨ub,10,none⟩=some (.int .i64 c.offset)/\w'.cell? ⟨xb,0,none⟩=some (.int .i64 x0)/\w'.cell? ⟨xb,1,none⟩=some (.int .i64 x1)) (go_keep)
        ((go_at_call 56;refine (wm x0 x1 _ n0 (by omega)).mono ?_;rintro e W1 ⟨rfl,hf1⟩
          have hF1:Fr wc W1 (fun _=>False):=hf1.drewl;have r0:=hF1.cell d0 id;have r2:=hF1.cell d10 id;have r3:=hF1.cell x0c id;have r4:=hF1.cell x1c id))
       all_goals go_upto_region 8 with fail
       all_goals go_quiet (fail)
       all_goals go_wp2
       all_goals go_ret2
       all_goals exact ⟨by rw [ha3.out];rfl,(hfc.step hF1 (fun _=>False.elim)).drewN _⟩
end Go.Proofs.YtdpjgflemddekaaGreatDoor
