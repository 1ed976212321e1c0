/- The code: findEndpoint. -/
import Derived.Test.YtdpjgflemddekaaGreatDoorMCodeV
import Derived.Test.YtdpjgflemddekaaGreatDoorMTalkP
set_option maxRecDepth 100000
set_option maxHeartbeats 2000000
namespace Go.Proofs.YtdpjgflemddekaaGreatDoor
open Go.RowKit
def al_ (r:Option (Int×Int×Int))(e:Ending):Prop:=
 match r with
 | none=>e=gup 2
 | some (x,b,g)=>∃n q,e=.returned (.tuple #[.agg #[.int .i64 b,.int .i64 n,.int .i64 q,.int .i64 g],.int .i64 x])
theorem a92 (o:Option KCap):∃(tf:Bool) (x0 x1 x2 x3:Int),(∀W,(Instr.typeAssert (jf o) 79 122 true).run Tryz.prog W=.ok (.tuple #[.agg #[.int .i64 x0,.int .i64 x1,.int .i64 x2,.int .i64 x3],.bool tf]) W)/\
 ((tf=true/\o=some (.endpoint x0 x1 x2 x3))\/(tf=false/\∀b n r g,o≠some (.endpoint b n r g))):=by
 cases o with
 | none=>exact ⟨false,0,0,0,0,ah6,.inr ⟨rfl,fun _ _ _ _ e=>by cases e⟩⟩
 | some k=>
  cases k with
  | endpoint b n r g=>exact ⟨true,b,n,r,g,bp _,.inl ⟨rfl,rfl⟩⟩
  | untyped b n m=>exact ⟨false,0,0,0,0,h_ _,.inr ⟨rfl,fun _ _ _ _ e=>by cases e⟩⟩
  | node b n m=>exact ⟨false,0,0,0,0,pd _,.inr ⟨rfl,fun _ _ _ _ e=>by cases e⟩⟩
  | task b n m=>exact ⟨false,0,0,0,0,ip _,.inr ⟨rfl,fun _ _ _ _ e=>by cases e⟩⟩
  | frame b n m=>exact ⟨false,0,0,0,0,gh _,.inr ⟨rfl,fun _ _ _ _ e=>by cases e⟩⟩
theorem a36 {W:World}{B:Nat}{t:TypeId}{a0 a1 a2 a3:Value}(v0 v1 v2 v3:Value)(h:W.heap[B]?=some (.cells #[a0,a1,a2,a3] t (0,0))):
 ((((W.setCell ⟨B,0,none⟩ v0).setCell ⟨B,1,none⟩ v1).setCell ⟨B,2,none⟩ v2).setCell ⟨B,3,none⟩ v3).heap[B]?=some (.cells #[v0,v1,v2,v3] t (0,0)):=by
 have h1:=ak _ B 0 v0 h;have h2:=ak _ B 1 v1 h1;have h3:=ak _ B 2 v2 h2;have h4:=ak _ B 3 v3 h3;exact h4
theorem uz {W:World}{b:Nat}{a0 a1 a2 a3 v0 v1 v2 v3 e:Value}{tmps:Array Value}(h:W.heap[b]?=some (.cells #[a0,a1,a2,a3] 122 (0,0)))(ht:tmps[4]?=some (.pointer (some ⟨b,0,none⟩)))(h5:tmps[5]?=some e):
 (results Tryz.f73 tmps).run Tryz.prog ((((W.setCell ⟨b,0,none⟩ v0).setCell ⟨b,1,none⟩ v1).setCell ⟨b,2,none⟩ v2).setCell ⟨b,3,none⟩ v3)=.ok (.tuple #[.agg #[v0,v1,v2,v3],e]) ((((W.setCell ⟨b,0,none⟩ v0).setCell ⟨b,1,none⟩ v1).setCell ⟨b,2,none⟩ v2).setCell ⟨b,3,none⟩ v3):=by
 have hb:=a36 v0 v1 v2 v3 h;have k0:=aa (o:=0) hb rfl;have k1:=aa (o:=1) hb rfl;have k2:=aa (o:=2) hb rfl;have k3:=aa (o:=3) hb rfl;generalize (((W.setCell ⟨b,0,none⟩ v0).setCell ⟨b,1,none⟩ v1).setCell ⟨b,2,none⟩ v2).setCell ⟨b,3,none⟩ v3=W2 at k0 k1 k2 k3;simp [results,Tryz.results73,go_sem,ht,k0,k1,k2,k3,h5]
theorem ag0 (V:ah)(kb ub:Nat)(c:Cl)(av tv bv:Value)(th root right:Int)(w:World)(h:de w kb ub V c av tv bv th root):
 Calls Tryz.prog 73 #[.pointer (some ⟨ub,0,none⟩),.int .i64 right] w fun e w'=>al_ (findE V.ker root c right) e/\Fr w w' (fun _=>False):=by
 have hu:=h.turn;have k0:w.cell? ⟨ub,0,none⟩=some (.pointer (some ⟨kb,0,none⟩)):=aa (o:=0) hu rfl;have k2:w.cell? ⟨ub,2,none⟩=some av:=aa (o:=2) hu rfl;have ch:=h.ker.ch;have hfind:∀W,Fr w W (fun _=>False)->Calls Tryz.prog 59 #[.pointer (some ⟨ub,0,none⟩),av] W fun e w'=>e=bd (az V.ker root c.at_)/\Fr W w' (fun _=>False):=by
  intro W hW;exact ph V kb ub c av tv bv av th root c.at_ W (h.ker.frame hW (fun _ _=>id)) (hu.frame hW id) (h.at_.fr hW (fun _ _=>id)) h.al h.ac
 have hlu:=World.block_lt_of_cell? _ _ k0;have hlk:=World.block_lt_of_cell? _ _ ch;generalize hA:findE V.ker root c right=ans;have HA:Hid (findE V.ker root c right=ans):=hA;clear hA;go_enter Tryz.func73,Tryz.ntmps73
 go_upto_region 1 with fail
 generalize hW1:w.alloc _=W1;have hf1:Fr w W1 (fun _=>False):=by rw [<- hW1];exact (Fr.refl _ _).alloc _
 have hb1:W1.heap[w.heap.size]?=some (.cells #[.int .i64 0,.int .i64 0,.int .i64 0,.int .i64 0] 122 (0,0)):=by rw [<- hW1];exact heap_alloc_new _ _
 clear hW1;have u0:=hf1.cell k0 id;have u2:=hf1.cell k2 id;have uh:=hf1.cell ch id;have l1:w.heap.size<W1.heap.size:=(Array.getElem?_eq_some_iff.1 hb1).1;cases hfi:az V.ker root c.at_ with
 | none=>
  have ha:Hid (ans=none):=by show _=_;rw [<- HA.out];unfold findE;rw [hfi]
  rw [hfi] at hfind;clear HA hfi;have d0:Fr w W1.drew (fun _=>False):=hf1.drew;have d1:Fr w (W1.alloc (.cells #[.int .i64 0,.int .i64 0,.int .i64 0,.int .i64 0] 122)).drew (fun _=>False):=(hf1.alloc _).drew;have e1:=World.new_ne W1 _ u0;have e2:=World.new_ne W1 _ uh;have n1:=World.block_lt_of_cell? _ _ u0;have n2:=World.block_lt_of_cell? _ _ uh;go_region_dies
  all_goals (
   refine (hfind _ (by first | exact d0 | exact d1)).mono ?_;rintro e W2 ⟨rfl,hf2⟩;unfold bd gup;have hF:Fr w W2 (fun _=>False):=by first | exact d0.step hf2 (fun _=>False.elim) | exact d1.step hf2 (fun _=>False.elim)
   clear hf2 d0 d1 u0 u2 uh hfind;go_wp2;exact ⟨rfl,by rw [ha.out];rfl,hF⟩)
 | some s=>
  rw [hfi] at hfind;simp only [bd,jx] at hfind;obtain ⟨tf,x0,x1,x2,x3,hta,hcase⟩:=a92 (V.ker.held s);have ha:Hid (ans=if tf=true then (if gp x2 right=0 then some (5,0,0) else some (0,x0,x3)) else some (3,0,0)):=by
   show _=_;rw [<- HA.out];unfold findE;rw [hfi];rcases hcase with ⟨rfl,hk⟩ | ⟨rfl,hk⟩
   ·simp only [hk];rfl
   ·rw [if_neg (by decide)];simp only
  clear HA hfi hcase;have hlook:∀W,Fr w W (fun _=>False)->(Instr.lookup 59 (.map (some V.hb)) (.agg #[.int .i64 s.node,.int .i64 s.index]) false).run Tryz.prog W=.ok (jf (V.ker.held s)) W:=by
   intro W hW;have:=be (h.ker.frame hW (fun _ _=>id)) s false;simpa only [Bool.false_eq_true,if_false] using this
  generalize jf (V.ker.held s)=hv at hlook hta;clear h hu k0 k2 ch;go_cut [6,7] (fun v6 v7 wx=>v7=.bool tf/\∃xb,v6=.pointer (some ⟨xb,0,none⟩)/\Fr W1 wx (fun _=>False)/\W1.heap.size<=xb/\wx.heap[xb]?=some (.cells #[.int .i64 x0,.int .i64 x1,.int .i64 x2,.int .i64 x3] 122 (0,0)))
  case first=>
   go_region_held3 (fun w'=>w'.cell? ⟨ub,0,none⟩=some (.pointer (some ⟨kb,0,none⟩))/\w'.cell? ⟨ub,2,none⟩=some av/\w'.cell? ⟨kb,1024,none⟩=some (.map (some V.hb))) (first | go_keep | (simp [go_sem,r0,r2,r3, *];done))
    (first
    |(go_at_call 59;refine (hfind _ (by first | exact hf1.drew | exact (hf1.alloc _).drew)).mono ?_;rintro e W2 ⟨rfl,hf2⟩
      have hF2:Fr W1 W2 (fun _=>False):=by first | exact hf2.drewl | exact hf2.drewl.of_alloc
      have r0:=hF2.cell u0 id;have r2:=hF2.cell u2 id;have r3:=hF2.cell uh id;have hl1:=hlook W2 (hf1.step hF2 (fun _=>False.elim));have hl2:=hlook _ (Fr.alloc (hf1.step hF2 (fun _=>False.elim)) (.cells #[.int .i64 0,.int .i64 0,.int .i64 0,.int .i64 0] 122));try (have qb:=pm (o:=.cells #[.int .i64 0,.int .i64 0,.int .i64 0,.int .i64 0] 122) hf2.drewl;have qb0:=aa (o:=0) qb rfl;have qb1:=aa (o:=1) qb rfl;have qb2:=aa (o:=2) qb rfl;have qb3:=aa (o:=3) qb rfl;have qz:∀o,W2.frozen? ⟨W1.heap.size,o,none⟩=false:=fun o=>ab qb;have qn1:W1.heap.size≠ub:=Nat.ne_of_gt (World.block_lt_of_cell? _ _ u0);have qn2:W1.heap.size≠kb:=Nat.ne_of_gt (World.block_lt_of_cell? _ _ uh))))
   all_goals go_wp2
   all_goals go_meet
   all_goals first
    | exact ⟨rfl,W2.heap.size,rfl,Fr.alloc hF2 _,hF2.size,heap_alloc_new _ _⟩
    | exact ⟨rfl,W1.heap.size,rfl,(((hF2.setCell (.inr (Nat.le_refl _)) _ _).setCell (.inr (Nat.le_refl _)) _ _).setCell (.inr (Nat.le_refl _)) _ _).setCell (.inr (Nat.le_refl _)) _ _,Nat.le_refl _,a36 _ _ _ _ qb⟩
  case rest=>
   obtain ⟨rfl,xb,rfl,hfc,hxb,hbx⟩:=hcut;clear hfind hlook hta u0 u2 uh;have hbc:=hfc.same hb1 id;have z:∀o,wc.frozen? ⟨w.heap.size,o,none⟩=false:=fun o=>ab hbc
   have x0c:=aa (o:=0) hbx rfl;have x1c:=aa (o:=1) hbx rfl;have x2c:=aa (o:=2) hbx rfl;have x3c:=aa (o:=3) hbx rfl;have b0c:=aa (o:=0) hbc rfl;have b1c:=aa (o:=1) hbc rfl;have b2c:=aa (o:=2) hbc rfl;have b3c:=aa (o:=3) hbc rfl;have hne:xb≠w.heap.size:=by omega
   have hF:=hf1.step hfc (fun _=>False.elim);have hfin:∀v0 v1 v2 v3,Fr w ((((wc.setCell ⟨w.heap.size,0,none⟩ v0).setCell ⟨w.heap.size,1,none⟩ v1).setCell ⟨w.heap.size,2,none⟩ v2).setCell ⟨w.heap.size,3,none⟩ v3) (fun _=>False):=fun v0 v1 v2 v3=>
    (((hF.setCell (.inr (Nat.le_refl _)) _ _).setCell (.inr (Nat.le_refl _)) _ _).setCell (.inr (Nat.le_refl _)) _ _).setCell (.inr (Nat.le_refl _)) _ _
   clear hfc hF hf1;cases tf with
   | false=>
    go_wp2;refine bodyPost_ret (v:=.tuple #[.agg #[.int .i64 0,.int .i64 0,.int .i64 0,.int .i64 0],.int .i64 3]) (uz hbc rfl rfl) rfl ?_;exact ⟨by rw [ha.out];exact ⟨0,0,rfl⟩,hfin _ _ _ _⟩
   | true=>
    cases hd:decide (gp x2 right=0) with
    | true=>
     have h0:gp x2 right=0:=of_decide_eq_true hd;have ha2:Hid (ans=some (5,0,0)):=by show _=_;rw [ha.out,if_pos rfl,if_pos h0]
     have hq:(bits BinOp.and IntKind.i64 x2 right==0)=true:=by simpa [gp] using h0
     clear hd h0 ha;go_wp2;refine bodyPost_ret (v:=.tuple #[.agg #[.int .i64 0,.int .i64 0,.int .i64 0,.int .i64 0],.int .i64 5]) (uz hbc rfl rfl) rfl ?_;exact ⟨by rw [ha2.out];exact ⟨0,0,rfl⟩,hfin _ _ _ _⟩
    | false=>
     have h0:¬gp x2 right=0:=of_decide_eq_false hd;have ha2:Hid (ans=some (0,x0,x3)):=by show _=_;rw [ha.out,if_pos rfl,if_neg h0]
     have hq:(bits BinOp.and IntKind.i64 x2 right==0)=false:=by simpa [gp] using h0
     clear hd h0 ha;go_wp2;refine bodyPost_ret (v:=.tuple #[.agg #[.int .i64 x0,.int .i64 x1,.int .i64 x2,.int .i64 x3],.int .i64 0]) (uz hbc rfl rfl) rfl ?_;exact ⟨by rw [ha2.out];exact ⟨x1,x2,rfl⟩,hfin _ _ _ _⟩
end Go.Proofs.YtdpjgflemddekaaGreatDoor
