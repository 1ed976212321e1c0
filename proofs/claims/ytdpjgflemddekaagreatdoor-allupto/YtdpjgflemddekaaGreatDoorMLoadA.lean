/- The code: load and store. -/
import Derived.Test.YtdpjgflemddekaaGreatDoorMWordA
import Derived.Test.YtdpjgflemddekaaGreatDoorMCommC
import Derived.Test.YtdpjgflemddekaaGreatDoorMCodeN
import Derived.Test.YtdpjgflemddekaaGreatDoorMRootA
set_option maxRecDepth 100000
set_option maxHeartbeats 2000000
namespace Go.Proofs.YtdpjgflemddekaaGreatDoor
open Go.RowKit
theorem wordOfK_range {K:Ker}{root:Int}{c:Cl}{right n:Int}(hB:∀s b n r,K.held s=some (.frame b n r)->0<=b/\0<=n/\n<=10/\b+pw n.toNat<=1024)(h:dg K root c right=some (0,n)):0<=n/\n<1024:=by
 unfold dg at h;cases hk:ao K root c.at_ with
 | none=>rw [hk] at h;cases h
 | some s=>
  rw [hk] at h;simp only at h;split at h
  ·rename_i b m r e;have:=hB s b m r e;split at h
   ·cases h
   ·split at h
    ·cases h
    ·cases h;omega
  ·cases h
theorem KGood.frB {S:KS}(h:KGood S)(s:Slot)(b n r:Int)(hc:S.K.held s=some (.frame b n r)):0<=b/\0<=n/\n<=10/\b+pw n.toNat<=1024:=h.capB hc
theorem load_any (kb ub:Nat)(S:KS)(V:KerV)(c:Cl)(av tv:Value)(th root:Int)(bv:Value)(w:World)(h:CallG w kb ub S V c av tv bv th root)(hw:∀i,i<1024->0<=S.K.ws i/\S.K.ws i<=4294967295):
 Calls Tryz.prog 42 #[.pointer (some ⟨ub,0,none⟩)] w fun e w'=>(match loadK S.K root c with
  | none=>e=gup 2
  | some (v,x)=>e=.returned (.tuple #[.int .i64 v,.int .i64 x]))/\Fr w w' (fun _=>False):=by
 have hfe:=wordOf_any V kb ub c av tv _ th root 1 w h.call (by rw [h.kd.kd.eq];exact h.good.frB);rw [h.kd.kd.eq] at hfe;have hws:V.ws=S.K.ws:=by rw [<- h.kd.kd.eq];rfl
 have k0:=h.turn.ck;have hcw:=fun (i:Nat) (hi:i<1024)=>h.kd.kd.ker.cw (i:=i) hi
 cases hfi:dg S.K root c 1 with
 | none=>
  have hr:loadK S.K root c=none:=by unfold loadK;rw [hfi]
  rw [hr];rw [hfi] at hfe;simp only [wordOut] at hfe;clear hr hfi;go_enter Tryz.func42,Tryz.ntmps42
  go_wp2_with ((go_at_call 77;refine hfe.mono ?_;rintro e W1 ⟨rfl,hf1⟩;unfold gup))
  exact ⟨rfl,rfl,hf1⟩
 | some y=>
  obtain ⟨x,n⟩:=y;rw [hfi] at hfe;simp only [wordOut] at hfe;by_cases hx:x=0
  ·subst hx;have hr:loadK S.K root c=some (S.K.ws n.toNat,0):=by unfold loadK;rw [hfi];simp
   rw [hr];obtain ⟨n0,n1⟩:=wordOfK_range h.good.frB hfi;clear hr hfi;obtain ⟨k,rfl⟩:=Int.eq_ofNat_of_zero_le n0;have hk:k<1024:=by omega
   have hk2:(k:Int)<1024:=by omega
   have kc:=hcw k hk;obtain ⟨w0,w1⟩:=hw k hk;rw [hws] at kc;rw [Int.toNat_natCast];generalize S.K.ws k=v at kc w0 w1 ⊢;have hwr:IntKind.i64.wrap v=v:=by simp [IntKind.wrap,IntKind.signed,IntKind.bits];omega
   clear hw hws hcw;go_enter Tryz.func42,Tryz.ntmps42
   go_wp2_with ((go_at_call 77;refine hfe.mono ?_;rintro e W1 ⟨rfl,hf1⟩;have r0:=hf1.cell k0 id;have r1:=hf1.cell kc id))
   go_ret2;exact ⟨rfl,hf1⟩
  ·have hr:loadK S.K root c=some (0,x):=by unfold loadK;rw [hfi];simp [hx]
   rw [hr];have hxe:(x==0)=false:=by simpa using hx
   clear hr hfi;go_enter Tryz.func42,Tryz.ntmps42
   go_wp2_with ((go_at_call 77;refine hfe.mono ?_;rintro e W1 ⟨rfl,hf1⟩))
   go_ret2;exact ⟨rfl,hf1⟩
theorem KD.putWs {w w1:World}{kb:Nat}{S:KS}{V:KerV}{v:Int}(h:KDG w kb S V)(hf:Fr w w1 (fun _=>False)){i:Nat}(hi:i<1024):KGOut w kb V ⟨Proofs.YtdpjgflemddekaaGreatDoor.putWs S.K i v,S.D⟩ (w1.setCell ⟨kb,i,none⟩ (.int .u32 v)):=by
 have:=putW_out (v:=v) h.kd.ker hf hi;rw [h.kd.eq] at this;exact h.kout this
theorem store_any (kb ub:Nat)(S:KS)(V:KerV)(c:Cl)(av tv:Value)(th root:Int)(bv:Value)(w:World)(h:CallG w kb ub S V c av tv bv th root):
 Calls Tryz.prog 43 #[.pointer (some ⟨ub,0,none⟩)] w fun e w'=>GotG w kb V ((b_ S.K (storeK S.K root c)).1,{S with K:=(b_ S.K (storeK S.K root c)).2}) e w':=by
 have hfe:=wordOf_any V kb ub c av tv _ th root 2 w h.call (by rw [h.kd.kd.eq];exact h.good.frB);rw [h.kd.kd.eq] at hfe;have k0:=h.turn.ck;have k9:=h.turn.cvalue;have hcw:=fun (i:Nat) (hi:i<1024)=>h.kd.kd.ker.cw (i:=i) hi
 have nk:kb≠ub:=fun e=>h.ub (.inl (.inl e.symm))
 generalize hR:storeK S.K root c=r;have HR:Hid (storeK S.K root c=r):=hR;clear hR;cases hfi:dg S.K root c 2 with
 | none=>
  have hr:Hid (r=none):=by show _=_;rw [<- HR.out];unfold storeK;rw [hfi]
  rw [hfi] at hfe;simp only [wordOut] at hfe;clear HR hfi;go_enter Tryz.func43,Tryz.ntmps43
  go_wp2_with ((go_at_call 77;refine hfe.mono ?_;rintro e W1 ⟨rfl,hf1⟩;unfold gup))
  exact ⟨rfl,.inr (by rw [hr.out];rfl),by rw [hr.out];exact h.kd.stay hf1⟩
 | some y=>
  obtain ⟨x,n⟩:=y;rw [hfi] at hfe;simp only [wordOut] at hfe;by_cases hx:x=0
  ·subst hx;obtain ⟨n0,n1⟩:=wordOfK_range h.good.frB hfi;by_cases hv:0<=c.value/\c.value<=4294967295
   ·have hr:Hid (r=some (0,{S.K with ws:=putNs S.K.ws n.toNat c.value})):=by show _=_;rw [<- HR.out];unfold storeK;rw [hfi];simp only [ne_eq,not_true,if_false,if_pos hv]
    have hiw:=fun W=>isWord_any c.value W
    rw [decide_eq_true hv] at hiw;have hwr:IntKind.u32.wrap c.value=c.value:=by simp [IntKind.wrap,IntKind.signed,IntKind.bits];omega
    clear HR hfi;obtain ⟨k,rfl⟩:=Int.eq_ofNat_of_zero_le n0;have hk:k<1024:=by omega
    have hk2:(k:Int)<1024:=by omega
    have kc:=hcw k hk;rw [Int.toNat_natCast] at hr;go_enter Tryz.func43,Tryz.ntmps43
    go_upto_region 6 with (first
     |(go_at_call 77;refine hfe.mono ?_;rintro e W1 ⟨rfl,hf1⟩;have r0:=hf1.cell k0 id;have r1:=hf1.cell kc id;have r9:=hf1.cell k9 id;have hz:=(h.kd.kd.ker.frame hf1 (fun _ _=>id)).fz)
     |(go_at_call 74;refine (hiw _).mono ?_;rintro e W2 ⟨rfl,rfl⟩))
    go_region_held3 (fun w'=>w'.cell? ⟨ub,0,none⟩=some (.pointer (some ⟨kb,0,none⟩))/\w'.cell? ⟨ub,9,none⟩=some (.int .i64 c.value)) (go_keep) (fail)
    all_goals go_wp2
    all_goals go_ret2
    all_goals
     refine ⟨.inl (by rw [hr.out];rfl),?_⟩;rw [hr.out];exact KD.putWs (v:=c.value) (w1:=W2.drew) h.kd hf1.drew hk
   ·have hr:Hid (r=some (7,S.K)):=by show _=_;rw [<- HR.out];unfold storeK;rw [hfi];simp only [ne_eq,not_true,if_false,if_neg hv]
    have hiw:=fun W=>isWord_any c.value W
    rw [decide_eq_false hv] at hiw;clear HR hfi hv;go_enter Tryz.func43,Tryz.ntmps43
    go_wp2_with (first
     |(go_at_call 77;refine hfe.mono ?_;rintro e W1 ⟨rfl,hf1⟩;have r0:=hf1.cell k0 id;have r9:=hf1.cell k9 id)
     |(go_at_call 74;refine (hiw _).mono ?_;rintro e W2 ⟨rfl,rfl⟩))
    go_ret2;exact ⟨.inl (by rw [hr.out];rfl),by rw [hr.out];exact h.kd.stay hf1⟩
  ·have hr:Hid (r=some (x,S.K)):=by show _=_;rw [<- HR.out];unfold storeK;rw [hfi];simp only [if_pos hx]
   have hxe:(x==0)=false:=by simpa using hx
   clear HR hfi;go_enter Tryz.func43,Tryz.ntmps43
   go_wp2_with ((go_at_call 77;refine hfe.mono ?_;rintro e W1 ⟨rfl,hf1⟩))
   go_ret2;exact ⟨.inl (by rw [hr.out];rfl),by rw [hr.out];exact h.kd.stay hf1⟩
end Go.Proofs.YtdpjgflemddekaaGreatDoor
namespace Go.Proofs.YtdpjgflemddekaaGreatDoor
open Go.RowKit Go.Shelf
theorem meth_at7 (W:World):(Instr.index 88 methV (.int .i64 7)).run Tryz.prog W=.ok (.func (.func 40) #[] #[]) W:=by kernel_rfl
theorem meth_at8 (W:World):(Instr.index 88 methV (.int .i64 8)).run Tryz.prog W=.ok (.func (.func 41) #[] #[]) W:=by kernel_rfl
theorem meth_at11 (W:World):(Instr.index 88 methV (.int .i64 11)).run Tryz.prog W=.ok (.func (.func 44) #[] #[]) W:=by kernel_rfl
theorem cf7 (args:Array Value)(W:World):(callFunc 40 args).run Tryz.prog W=.ok (.enter 40 args) W:=by kernel_rfl
theorem cf8 (args:Array Value)(W:World):(callFunc 41 args).run Tryz.prog W=.ok (.enter 41 args) W:=by kernel_rfl
theorem cf11 (args:Array Value)(W:World):(callFunc 44 args).run Tryz.prog W=.ok (.enter 44 args) W:=by kernel_rfl
def newAns (S:KS):Option (Int×Int×Ker)->Int×Int×KS
 | none=>(0,2,S)
 | some y=>(y.1,y.2.1,⟨y.2.2,S.D⟩)
theorem orTwo_new {S:KS}{r:Option (Int×Ker)}:newAns S (r.map (fun y=>((0:Int),y.1,y.2)))=(0,(b_ S.K r).1,{S with K:=(b_ S.K r).2}):=by
 cases r with
 | none=>rfl
 | some p=>rfl
theorem kdo_new (S:KS)(V:KerV)(kb:Nat)(c:Cl)(av tv:Value)(ba:Option Addr)(bn bc:Nat)(th:Int)(w:World)(hc:CallI w kb S V c av tv)(hw:∀i,i<1024->0<=S.K.ws i/\S.K.ws i<=4294967295)(hk:7<=c.kind/\c.kind<=11):
 Calls Tryz.prog 11 (doArgs kb th c av tv (.slice ba bn bc)) w (fun e w'=>e=.returned (.tuple #[.int .i64 (newKS S th c).1,.int .i64 (newKS S th c).2.1])/\KGOut w kb V (newKS S th c).2.2 w'):=by
 have h:=hc.kd;have hker:=h.kd.ker;have hV:V.ker=S.K:=h.kd.eq;have hstay:∀w',Fr w w' (fun _=>False)->KGOut w kb V S w':=fun w' hf=>h.stay hf
 cases ht:V.ker.thr th with
 | none=>
  have e:newKS S th c=(0,1,S):=by unfold newKS;rw [<- hV,ht]
  rw [e];exact (do_none V kb c av tv _ th w hker ht).mono fun e w' ⟨h1,h2⟩=>⟨h1,hstay _ h2⟩
 | some t=>
  by_cases hs:t.state=1
  ·have hthr:S.K.thr th=some t:=by rw [<- hV];exact ht
   have hN:newKS S th c=newAns S (co S.K th t.root c):=by unfold newKS;rw [hthr];simp only;rw [if_neg (by simpa using hs)];cases co S.K th t.root c<;>rfl
   rw [hN];have fin:∀r:Int×Int×KS,newAns S (co S.K th t.root c)=r->Calls Tryz.prog 11 (doArgs kb th c av tv (.slice ba bn bc)) w (fun e w'=>∃x y K,e=.returned (.tuple #[.int .i64 x,.int .i64 y])/\KGOut w kb V K w'/\((x,y,K)=r))->
    Calls Tryz.prog 11 (doArgs kb th c av tv (.slice ba bn bc)) w (fun e w'=>e=.returned (.tuple #[.int .i64 (newAns S (co S.K th t.root c)).1,.int .i64 (newAns S (co S.K th t.root c)).2.1])/\KGOut w kb V (newAns S (co S.K th t.root c)).2.2 w'):=by
    intro r e hr;rw [e];refine hr.mono ?_;rintro e w' ⟨x,y,K,h1,h2,rfl⟩;exact ⟨h1,h2⟩
   have got:∀{W:World} {r:Int×KS} {e:Ending} {w':World} {ub:Nat},GotG W kb V r e w'->∃x y K,(e=.returned (.tuple #[.int .i64 x,.int .i64 y])\/(e=gup y/\x=0))/\KUOut W kb ub V K w'/\((x,y,K)=(0,r.1,r.2)):=by
    intro W r e w' ub hx;obtain ⟨x,y,K,g1,g2,rfl,g4⟩:=got_of hx;exact ⟨_,y,K,g1,g2,by rw [<- g4]⟩
   have hk5:c.kind=7\/c.kind=8\/c.kind=9\/c.kind=10\/c.kind=11:=by omega
   rcases hk5 with e | e | e | e | e
   ·refine fin (0,(b_ S.K (sendK S.K th t.root c)).1,{S with K:=(b_ S.K (sendK S.K th t.root c)).2}) ?_ (do_any S V kb c av tv ba bn bc th w h ht hs (by omega) (by omega) 40 (by rw [e];exact meth_at7) cf7 _ ?_)
    ·unfold co;rw [if_pos e];exact orTwo_new
    ·intro W ub hW hU hu;exact (send_any kb ub S V c av tv th t.root (.slice ba bn bc) W (hc.at hW hU hu) hthr hs).mono fun e w' hx=>got hx
   ·refine fin (0,(b_ S.K (recvK S.K th t.root c)).1,{S with K:=(b_ S.K (recvK S.K th t.root c)).2}) ?_ (do_any S V kb c av tv ba bn bc th w h ht hs (by omega) (by omega) 41 (by rw [e];exact meth_at8) cf8 _ ?_)
    ·unfold co;rw [if_neg (by omega),if_pos e];exact orTwo_new
    ·intro W ub hW hU hu;exact (recv_any kb ub S V c av tv th t.root (.slice ba bn bc) W (hc.at hW hU hu) hthr hs).mono fun e w' hx=>got hx
   ·cases hl:loadK S.K t.root c with
    | none=>
     refine fin (0,2,S) ?_ (do_any S V kb c av tv ba bn bc th w h ht hs (by omega) (by omega) 42 (by rw [e];exact meth_at9) cf9 _ ?_)
     ·unfold co;rw [if_neg (by omega),if_neg (by omega),if_pos e,hl];rfl
     ·intro W ub hW hU hu;have hcc:=hc.at hW hU hu;refine (load_any kb ub S V c av tv th t.root (.slice ba bn bc) W hcc hw).mono fun e w' hx=>?_
      rw [hl] at hx;exact ⟨0,2,S,.inr ⟨hx.1,rfl⟩,(hcc.kd.stay hx.2).u,rfl⟩
    | some p=>
     obtain ⟨v,x⟩:=p;refine fin (v,x,S) ?_ (do_any S V kb c av tv ba bn bc th w h ht hs (by omega) (by omega) 42 (by rw [e];exact meth_at9) cf9 _ ?_)
     ·unfold co;rw [if_neg (by omega),if_neg (by omega),if_pos e,hl];rfl
     ·intro W ub hW hU hu;have hcc:=hc.at hW hU hu;refine (load_any kb ub S V c av tv th t.root (.slice ba bn bc) W hcc hw).mono fun e w' hx=>?_
      rw [hl] at hx;exact ⟨v,x,S,.inl hx.1,(hcc.kd.stay hx.2).u,rfl⟩
   ·refine fin (0,(b_ S.K (storeK S.K t.root c)).1,{S with K:=(b_ S.K (storeK S.K t.root c)).2}) ?_ (do_any S V kb c av tv ba bn bc th w h ht hs (by omega) (by omega) 43 (by rw [e];exact meth_at10) cf10 _ ?_)
    ·unfold co;rw [if_neg (by omega),if_neg (by omega),if_neg (by omega),if_pos e];exact orTwo_new
    ·intro W ub hW hU hu;exact (store_any kb ub S V c av tv th t.root (.slice ba bn bc) W (hc.at hW hU hu)).mono fun e w' hx=>got hx
   ·refine fin (0,(b_ S.K (rootK S.K t.root c)).1,{S with K:=(b_ S.K (rootK S.K t.root c)).2}) ?_ (do_any S V kb c av tv ba bn bc th w h ht hs (by omega) (by omega) 44 (by rw [e];exact meth_at11) cf11 _ ?_)
    ·unfold co;rw [if_neg (by omega),if_neg (by omega),if_neg (by omega),if_neg (by omega)];exact orTwo_new
    ·intro W ub hW hU hu;exact (setRoot_any kb ub S V c av tv th t.root (.slice ba bn bc) W (hc.at hW hU hu)).mono fun e w' hx=>got hx
  ·have e:newKS S th c=(0,1,S):=by unfold newKS;rw [<- hV,ht];simp [hs]
   rw [e];exact (do_still V kb c av tv _ th w hker ht hs).mono fun e w' ⟨h1,h2⟩=>⟨h1,hstay _ h2⟩
theorem kdo_x (S:KS)(V:KerV)(kb:Nat)(c:Cl)(av tv:Value)(ba:Option Addr)(bc:Nat)(th:Int)(w:World)(hc:CallI w kb S V c av tv)(hw:∀i,i<1024->0<=S.K.ws i/\S.K.ws i<=4294967295):
 Calls Tryz.prog 11 (doArgs kb th c av tv (.slice ba 0 bc)) w (fun e w'=>e=.returned (.tuple #[.int .i64 (doKX S th c []).1,.int .i64 (doKX S th c []).2.1])/\KGOut w kb V (doKX S th c []).2.2 w'):=by
 by_cases hk:7<=c.kind/\c.kind<=11
 ·have hX:doKX S th c []=newKS S th c:=if_pos hk;rw [hX];exact kdo_new S V kb c av tv ba 0 bc th w hc hw hk
 ·have hX:doKX S th c []=(0,doKB S th c []):=if_neg hk;rw [hX];exact kdo_any S V kb c av tv ba bc th w hc (by omega)
end Go.Proofs.YtdpjgflemddekaaGreatDoor
