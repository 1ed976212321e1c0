/- The code: load and store. -/
import Derived.Test.YtdpjgflemddekaaGreatDoorMWordA
import Derived.Test.YtdpjgflemddekaaGreatDoorMCommC
import Derived.Test.YtdpjgflemddekaaGreatDoorMCodeN
import Derived.Test.YtdpjgflemddekaaGreatDoorMRootA
import Derived.Test.YtdpjgflemddekaaGreatDoorMTRi
import Derived.Test.YtdpjgflemddekaaGreatDoorMTRn
import Derived.Test.YtdpjgflemddekaaGreatDoorMLawF0
import Derived.Test.YtdpjgflemddekaaGreatDoorMCodeZ1
import Derived.Test.YtdpjgflemddekaaGreatDoorMTalkP
import Derived.Test.YtdpjgflemddekaaGreatDoorMRefC
import Derived.Test.YtdpjgflemddekaaGreatDoorMInvB
set_option maxRecDepth 100000
set_option maxHeartbeats 4000000
namespace Go.Proofs.YtdpjgflemddekaaGreatDoor
open Go.RowKit
theorem wordOfK_range {K:Ker}{root:Int}{c:Cl}{right n:Int}(hB:∀s b n r,K.held s=some (.frame b n r)->0<=b/\0<=n/\n<=10/\b+pw n.toNat<=1024)(h:co K root c right=some (0,n)):0<=n/\n<1024:=by
 unfold co at h;cases hk:am K root c.at_ with
 | none=>rw [hk] at h;cases h
 | some s=>
  rw [hk] at h;simp only at h;split at h
  ·rename_i b m r e;have:=hB s b m r e;split at h
   ·cases h
   ·split at h
    ·cases h
    ·cases h;omega
  ·cases h
theorem KGood.frB {S:KS}(h:KGood S)(s:Slot)(b n r:Int)(hc:S.K.held s=some (.frame b n r)):0<=b/\0<=n/\n<=10/\b+pw n.toNat<=1024:=h.capB hc
theorem load_any (kb ub:Nat)(S:KS)(V:KerV)(c:Cl)(av tv:Value)(th root:Int)(A:Option Addr)(cap:Nat)(w:World)(h:CallG w kb ub S V c av tv A cap th root)(hw:∀i,i<1024->0<=S.K.ws i/\S.K.ws i<=4294967295):
 Calls Tryz.prog 42 #[.pointer (some ⟨ub,0,none⟩)] w fun e w'=>(match loadK S.K root c with
  | none=>e=gup 2
  | some (v,x)=>e=.returned (.tuple #[.int .i64 v,.int .i64 x]))/\Fr w w' (fun _=>False):=by
 have hfe:=wordOf_any V kb ub c av tv _ th root 1 w h.call (by rw [h.kd.kd.eq];exact h.good.frB);rw [h.kd.kd.eq] at hfe;have hws:V.ws=S.K.ws:=by rw [<- h.kd.kd.eq];rfl
 have k0:=h.turn.ck;have hcw:=fun (i:Nat) (hi:i<1024)=>h.kd.kd.ker.cw (i:=i) hi
 cases hfi:co S.K root c 1 with
 | none=>
  have hr:loadK S.K root c=none:=by unfold loadK;rw [hfi]
  rw [hr];rw [hfi] at hfe;simp only [wordOut] at hfe;clear hr hfi;go_enter Tryz.func42,Tryz.ntmps42
  go_wp2_with ((go_at_call 77;refine hfe.mono ?_;rintro e W1 ⟨rfl,hf1⟩;unfold gup))
  exact ⟨rfl,rfl,hf1⟩
 | some y=>
  obtain ⟨x,n⟩:=y;rw [hfi] at hfe;simp only [wordOut] at hfe;by_cases hx:x=0
  ·subst hx;have hr:loadK S.K root c=some (S.K.ws n.toNat,0):=by unfold loadK;rw [hfi];simp
   rw [hr];obtain ⟨n0,n1⟩:=wordOfK_range h.good.frB hfi;clear hr hfi;obtain ⟨k,rfl⟩:=Int.eq_ofNat_of_zero_le n0;have hk:k<1024:=by omega
   have hk2:(k:Int)<1024:=by omega
   have kc:=hcw k hk;obtain ⟨w0,w1⟩:=hw k hk;rw [hws] at kc;rw [Int.toNat_natCast];generalize S.K.ws k=v at kc w0 w1 ⊢;have hwr:IntKind.i64.wrap v=v:=by simp [IntKind.wrap,IntKind.signed,IntKind.bits];omega
   clear hw hws hcw;go_enter Tryz.func42,Tryz.ntmps42
   go_wp2_with ((go_at_call 77;refine hfe.mono ?_;rintro e W1 ⟨rfl,hf1⟩;have r0:=hf1.cell k0 id;have r1:=hf1.cell kc id))
   go_ret2;exact ⟨rfl,hf1⟩
  ·have hr:loadK S.K root c=some (0,x):=by unfold loadK;rw [hfi];simp [hx]
   rw [hr];have hxe:(x==0)=false:=by simpa using hx
   clear hr hfi;go_enter Tryz.func42,Tryz.ntmps42
   go_wp2_with ((go_at_call 77;refine hfe.mono ?_;rintro e W1 ⟨rfl,hf1⟩))
   go_ret2;exact ⟨rfl,hf1⟩
theorem KD.putWs {w w1:World}{kb:Nat}{S:KS}{V:KerV}{v:Int}(h:KDG w kb S V)(hf:Fr w w1 (fun _=>False)){i:Nat}(hi:i<1024):KGOut w kb V ⟨Proofs.YtdpjgflemddekaaGreatDoor.putWs S.K i v,S.D⟩ (w1.setCell ⟨kb,i,none⟩ (.int .u32 v)):=by
 have:=putW_out (v:=v) h.kd.ker hf hi;rw [h.kd.eq] at this;exact h.kout this
theorem store_any (kb ub:Nat)(S:KS)(V:KerV)(c:Cl)(av tv:Value)(th root:Int)(A:Option Addr)(cap:Nat)(w:World)(h:CallG w kb ub S V c av tv A cap th root):
 Calls Tryz.prog 43 #[.pointer (some ⟨ub,0,none⟩)] w fun e w'=>GotG w kb V ((bw S.K (storeK S.K root c)).1,{S with K:=(bw S.K (storeK S.K root c)).2}) e w':=by
 have hfe:=wordOf_any V kb ub c av tv _ th root 2 w h.call (by rw [h.kd.kd.eq];exact h.good.frB);rw [h.kd.kd.eq] at hfe;have k0:=h.turn.ck;have k9:=h.turn.cvalue;have hcw:=fun (i:Nat) (hi:i<1024)=>h.kd.kd.ker.cw (i:=i) hi
 have nk:kb≠ub:=fun e=>h.ub (.inl (.inl e.symm))
 generalize hR:storeK S.K root c=r;have HR:Hid (storeK S.K root c=r):=hR;clear hR;cases hfi:co S.K root c 2 with
 | none=>
  have hr:Hid (r=none):=by show _=_;rw [<- HR.out];unfold storeK;rw [hfi]
  rw [hfi] at hfe;simp only [wordOut] at hfe;clear HR hfi;go_enter Tryz.func43,Tryz.ntmps43
  go_wp2_with ((go_at_call 77;refine hfe.mono ?_;rintro e W1 ⟨rfl,hf1⟩;unfold gup))
  exact ⟨rfl,.inr (by rw [hr.out];rfl),by rw [hr.out];exact h.kd.stay hf1⟩
 | some y=>
  obtain ⟨x,n⟩:=y;rw [hfi] at hfe;simp only [wordOut] at hfe;by_cases hx:x=0
  ·subst hx;obtain ⟨n0,n1⟩:=wordOfK_range h.good.frB hfi;by_cases hv:0<=c.value/\c.value<=4294967295
   ·have hr:Hid (r=some (0,{S.K with ws:=putNs S.K.ws n.toNat c.value})):=by show _=_;rw [<- HR.out];unfold storeK;rw [hfi];simp only [ne_eq,not_true,if_false,if_pos hv]
    have hiw:=fun W=>isWord_any c.value W
    rw [decide_eq_true hv] at hiw;have hwr:IntKind.u32.wrap c.value=c.value:=by simp [IntKind.wrap,IntKind.signed,IntKind.bits];omega
    clear HR hfi;obtain ⟨k,rfl⟩:=Int.eq_ofNat_of_zero_le n0;have hk:k<1024:=by omega
    have hk2:(k:Int)<1024:=by omega
    have kc:=hcw k hk;rw [Int.toNat_natCast] at hr;go_enter Tryz.func43,Tryz.ntmps43
    go_upto_region 6 with (first
     |(go_at_call 77;refine hfe.mono ?_;rintro e W1 ⟨rfl,hf1⟩;have r0:=hf1.cell k0 id;have r1:=hf1.cell kc id;have r9:=hf1.cell k9 id;have hz:=(h.kd.kd.ker.frame hf1 (fun _ _=>id)).fz)
     |(go_at_call 74;refine (hiw _).mono ?_;rintro e W2 ⟨rfl,rfl⟩))
    go_region_held3 (fun w'=>w'.cell? ⟨ub,0,none⟩=some (.pointer (some ⟨kb,0,none⟩))/\w'.cell? ⟨ub,9,none⟩=some (.int .i64 c.value)) (go_keep) (fail)
    all_goals go_wp2
    all_goals go_ret2
    all_goals
     refine ⟨.inl (by rw [hr.out];rfl),?_⟩;rw [hr.out];exact KD.putWs (v:=c.value) (w1:=W2.drew) h.kd hf1.drew hk
   ·have hr:Hid (r=some (7,S.K)):=by show _=_;rw [<- HR.out];unfold storeK;rw [hfi];simp only [ne_eq,not_true,if_false,if_neg hv]
    have hiw:=fun W=>isWord_any c.value W
    rw [decide_eq_false hv] at hiw;clear HR hfi hv;go_enter Tryz.func43,Tryz.ntmps43
    go_wp2_with (first
     |(go_at_call 77;refine hfe.mono ?_;rintro e W1 ⟨rfl,hf1⟩;have r0:=hf1.cell k0 id;have r9:=hf1.cell k9 id)
     |(go_at_call 74;refine (hiw _).mono ?_;rintro e W2 ⟨rfl,rfl⟩))
    go_ret2;exact ⟨.inl (by rw [hr.out];rfl),by rw [hr.out];exact h.kd.stay hf1⟩
  ·have hr:Hid (r=some (x,S.K)):=by show _=_;rw [<- HR.out];unfold storeK;rw [hfi];simp only [if_pos hx]
   have hxe:(x==0)=false:=by simpa using hx
   clear HR hfi;go_enter Tryz.func43,Tryz.ntmps43
   go_wp2_with ((go_at_call 77;refine hfe.mono ?_;rintro e W1 ⟨rfl,hf1⟩))
   go_ret2;exact ⟨.inl (by rw [hr.out];rfl),by rw [hr.out];exact h.kd.stay hf1⟩
end Go.Proofs.YtdpjgflemddekaaGreatDoor
namespace Go.Proofs.YtdpjgflemddekaaGreatDoor
open Go.RowKit Go.Shelf
theorem meth_at7 (W:World):(Instr.index 88 methV (.int .i64 7)).run Tryz.prog W=.ok (.func (.func 40) #[] #[]) W:=by kernel_rfl
theorem meth_at8 (W:World):(Instr.index 88 methV (.int .i64 8)).run Tryz.prog W=.ok (.func (.func 41) #[] #[]) W:=by kernel_rfl
theorem meth_at11 (W:World):(Instr.index 88 methV (.int .i64 11)).run Tryz.prog W=.ok (.func (.func 44) #[] #[]) W:=by kernel_rfl
theorem cf7 (args:Array Value)(W:World):(callFunc 40 args).run Tryz.prog W=.ok (.enter 40 args) W:=by kernel_rfl
theorem cf8 (args:Array Value)(W:World):(callFunc 41 args).run Tryz.prog W=.ok (.enter 41 args) W:=by kernel_rfl
theorem cf11 (args:Array Value)(W:World):(callFunc 44 args).run Tryz.prog W=.ok (.enter 44 args) W:=by kernel_rfl
def newAns (S:KS):Option (Int×Int×Ker)->Int×Int×KS
 | none=>(0,2,S)
 | some y=>(y.1,y.2.1,⟨y.2.2,S.D⟩)
theorem orTwo_new {S:KS}{r:Option (Int×Ker)}:newAns S (r.map (fun y=>((0:Int),y.1,y.2)))=(0,(bw S.K r).1,{S with K:=(bw S.K r).2}):=by
 cases r with
 | none=>rfl
 | some p=>rfl
theorem kdo_x (S:KS)(V:KerV)(kb:Nat)(c:Cl)(av tv:Value)(ba:Option Addr)(bc:Nat)(th:Int)(w:World)(hc:CallI w kb S V c av tv)(hw:∀i,i<1024->0<=S.K.ws i/\S.K.ws i<=4294967295):
 Calls Tryz.prog 11 (doArgs kb th c av tv (.slice ba 0 bc)) w (fun e w'=>e=.returned (.tuple #[.int .i64 (doKX S th c []).1,.int .i64 (doKX S th c []).2.1])/\KGOut w kb V (doKX S th c []).2.2 w'):=by
 by_cases hk:7<=c.kind/\c.kind<=11
 ·have hX:doKX S th c []=newKS S th c:=if_pos hk;rw [hX];have h:=hc.kd;have hker:=h.kd.ker;have hV:V.ker=S.K:=h.kd.eq;have hstay:∀w',Fr w w' (fun _=>False)->KGOut w kb V S w':=fun w' hf=>h.stay hf
  cases ht:V.ker.thr th with
  | none=>
   have e:newKS S th c=(0,1,S):=by unfold newKS;rw [<- hV,ht]
   rw [e];exact (do_none V kb c av tv _ th w hker ht).mono fun e w' ⟨h1,h2⟩=>⟨h1,hstay _ h2⟩
  | some t=>
   by_cases hs:t.state=1
   ·have hthr:S.K.thr th=some t:=by rw [<- hV];exact ht
    have hN:newKS S th c=newAns S (bz S.K th t.root c):=by unfold newKS;rw [hthr];simp only;rw [if_neg (by simpa using hs)];cases bz S.K th t.root c<;>rfl
    rw [hN];have fin:∀r:Int×Int×KS,newAns S (bz S.K th t.root c)=r->Calls Tryz.prog 11 (doArgs kb th c av tv (.slice ba 0 bc)) w (fun e w'=>∃x y K,e=.returned (.tuple #[.int .i64 x,.int .i64 y])/\KGOut w kb V K w'/\((x,y,K)=r))->
     Calls Tryz.prog 11 (doArgs kb th c av tv (.slice ba 0 bc)) w (fun e w'=>e=.returned (.tuple #[.int .i64 (newAns S (bz S.K th t.root c)).1,.int .i64 (newAns S (bz S.K th t.root c)).2.1])/\KGOut w kb V (newAns S (bz S.K th t.root c)).2.2 w'):=by
     intro r e hr;rw [e];refine hr.mono ?_;rintro e w' ⟨x,y,K,h1,h2,rfl⟩;exact ⟨h1,h2⟩
    have got:∀{W:World} {r:Int×KS} {e:Ending} {w':World},GotG W kb V r e w'->∃x y K,(e=.returned (.tuple #[.int .i64 x,.int .i64 y])\/(e=gup y/\x=0))/\KGOut W kb V K w'/\((x,y,K)=(0,r.1,r.2)):=by
     intro W r e w' hx;obtain ⟨x,y,K,g1,g2,rfl,g4⟩:=got_of hx;exact ⟨_,y,K,g1,g2,by rw [<- g4]⟩
    have hk5:c.kind=7\/c.kind=8\/c.kind=9\/c.kind=10\/c.kind=11:=by omega
    rcases hk5 with e | e | e | e | e
    ·refine fin (0,(bw S.K (sendK S.K th t.root c)).1,{S with K:=(bw S.K (sendK S.K th t.root c)).2}) ?_ (do_any S V kb c av tv ba 0 bc th w h ht hs (by omega) (by omega) 40 (by rw [e];exact meth_at7) cf7 _ ?_)
     ·unfold bz;rw [if_pos e];exact orTwo_new
     ·intro W ub hW hU hu;exact (send_any kb ub S V c av tv th t.root ba bc W (hc.at hW hU hu) hthr hs).mono fun e w' hx=>got hx
    ·refine fin (0,(bw S.K (recvK S.K th t.root c)).1,{S with K:=(bw S.K (recvK S.K th t.root c)).2}) ?_ (do_any S V kb c av tv ba 0 bc th w h ht hs (by omega) (by omega) 41 (by rw [e];exact meth_at8) cf8 _ ?_)
     ·unfold bz;rw [if_neg (by omega),if_pos e];exact orTwo_new
     ·intro W ub hW hU hu;exact (recv_any kb ub S V c av tv th t.root ba bc W (hc.at hW hU hu) hthr hs).mono fun e w' hx=>got hx
    ·cases hl:loadK S.K t.root c with
     | none=>
      refine fin (0,2,S) ?_ (do_any S V kb c av tv ba 0 bc th w h ht hs (by omega) (by omega) 42 (by rw [e];exact meth_at9) cf9 _ ?_)
      ·unfold bz;rw [if_neg (by omega),if_neg (by omega),if_pos e,hl];rfl
      ·intro W ub hW hU hu;have hcc:=hc.at hW hU hu;refine (load_any kb ub S V c av tv th t.root ba bc W hcc hw).mono fun e w' hx=>?_
       rw [hl] at hx;exact ⟨0,2,S,.inr ⟨hx.1,rfl⟩,hcc.kd.stay hx.2,rfl⟩
     | some p=>
      obtain ⟨v,x⟩:=p;refine fin (v,x,S) ?_ (do_any S V kb c av tv ba 0 bc th w h ht hs (by omega) (by omega) 42 (by rw [e];exact meth_at9) cf9 _ ?_)
      ·unfold bz;rw [if_neg (by omega),if_neg (by omega),if_pos e,hl];rfl
      ·intro W ub hW hU hu;have hcc:=hc.at hW hU hu;refine (load_any kb ub S V c av tv th t.root ba bc W hcc hw).mono fun e w' hx=>?_
       rw [hl] at hx;exact ⟨v,x,S,.inl hx.1,hcc.kd.stay hx.2,rfl⟩
    ·refine fin (0,(bw S.K (storeK S.K t.root c)).1,{S with K:=(bw S.K (storeK S.K t.root c)).2}) ?_ (do_any S V kb c av tv ba 0 bc th w h ht hs (by omega) (by omega) 43 (by rw [e];exact meth_at10) cf10 _ ?_)
     ·unfold bz;rw [if_neg (by omega),if_neg (by omega),if_neg (by omega),if_pos e];exact orTwo_new
     ·intro W ub hW hU hu;exact (store_any kb ub S V c av tv th t.root ba bc W (hc.at hW hU hu)).mono fun e w' hx=>got hx
    ·refine fin (0,(bw S.K (rootK S.K t.root c)).1,{S with K:=(bw S.K (rootK S.K t.root c)).2}) ?_ (do_any S V kb c av tv ba 0 bc th w h ht hs (by omega) (by omega) 44 (by rw [e];exact meth_at11) cf11 _ ?_)
     ·unfold bz;rw [if_neg (by omega),if_neg (by omega),if_neg (by omega),if_neg (by omega)];exact orTwo_new
     ·intro W ub hW hU hu;exact (setRoot_any kb ub S V c av tv th t.root ba bc W (hc.at hW hU hu)).mono fun e w' hx=>got hx
   ·have e:newKS S th c=(0,1,S):=by unfold newKS;rw [<- hV,ht];simp [hs]
    rw [e];exact (do_still V kb c av tv _ th w hker ht hs).mono fun e w' ⟨h1,h2⟩=>⟨h1,hstay _ h2⟩
 ·have hX:doKX S th c []=(0,doKB S th c []):=if_neg hk;rw [hX];exact kdo_any S V kb c av tv ba bc th w hc (by omega)
end Go.Proofs.YtdpjgflemddekaaGreatDoor
namespace Go.Proofs.YtdpjgflemddekaaGreatDoor
open Go.RowKit
theorem talk_any (S:RS)(V:RefV)(kb:Nat)(b:Int)(c:Cl)(av tv:Value)(e:Ent)(w:World)(h:RD w kb S V)(hnT:S.R.T.length<=900000)(hq:QIn S)(hbT:∃t∈S.R.T,t.base=b)(hk:c.kind=7\/c.kind=8)(hr:0<=e.rights/\e.rights<=7):
 Calls Tryz.prog 87 #[.pointer (some ⟨kb,0,none⟩),.int .i64 b,.agg (c.cells av tv),capE e] w (RetOut w kb V (talkR S b c e)):=by
 by_cases hno:e.ty≠3\/rbit e.rights (if c.kind=8 then 1 else 2)=true\/(c.kind=7/\(c.value<0\/4294967295<c.value))
 ·exact talk_no S V kb b c av tv e w h hr hk hno
 ·have ht:e.ty=3:=Decidable.not_not.1 (fun h=>hno (.inl h))
  have hb:rbit e.rights (if c.kind=8 then 1 else 2)=false:=by
   cases hx:rbit e.rights (if c.kind=8 then 1 else 2) with
   | false=>rfl
   | true=>exact absurd (.inr (.inl hx)) hno
  rcases hk with hk | hk
  ·rw [hk] at hb;exact talk_7 S V kb b c av tv e w h hnT hq hbT hk ht hr hb (by have:¬(c.value<0\/4294967295<c.value):=fun h=>hno (.inr (.inr ⟨hk,h⟩));omega)
  ·rw [hk] at hb;exact talk_8 S V kb b c av tv e w h hnT hq hbT hk ht hr hb
structure EntOk (S:RS)(e:Ent):Prop where
 r:0<=e.rights/\e.rights<=7
 f:e.ty=5->0<=e.base/\e.bits<=20/\e.base+pw e.bits.toNat<=1024
 t:e.ty=4->∃t∈S.R.T,t.base=e.base
theorem GoodR.held {S:RS}(h:GoodR S)(i:Nat)(hi:i<S.R.L.length):EntOk S S.R.L[i]:=by
 obtain ⟨S',hA⟩:=h;obtain ⟨c,hc,ht⟩:=hA.core.rel.cap _ (List.getElem_mem hi);obtain ⟨t1,t2,t3,t4,_⟩:=told_parts ht;obtain ⟨h1,h2,h3,h4,_⟩:=hA.core.cap _ c hc;refine ⟨by rw [t4];exact hA.core.rt _ c hc,fun _=>?_,fun h=>?_⟩
 ·rw [t2,t3];exact ⟨h1,by omega,h4⟩
 ·rw [t1] at h;cases c with
  | task b n r=>
   obtain ⟨t,ht⟩:=hA.core.hth _ b n r hc;rw [hA.core.rel.thr] at ht;cases hf:S.R.T.find? (af b) with
   | none=>rw [hf] at ht;cases ht
   | some y=>exact ⟨y,List.mem_of_find?_eq_some hf,by rw [t2];exact (by simpa [af] using List.find?_some hf:y.base=b)⟩
  | _=>simp only [KCap.ty] at h;omega
def noEnt:Ent:=⟨0,0,0,0,0,0,0,0,0⟩
theorem noEnt_ok (S:RS):EntOk S noEnt:=⟨by decide,fun h=>absurd h (by decide),fun h=>absurd h (by decide)⟩
def newAt (S:RS)(b root:Int)(c:Cl)(e:Ent):Int×Int×RS:=
 if c.kind=7\/c.kind=8 then (0,talkR S b c e) else if c.kind=9\/c.kind=10 then wordR S c e else (0,giveR S root c e)
theorem newAt_no (S:RS)(b root:Int)(c:Cl):newAt S b root c noEnt=(0,3,S):=by
 unfold newAt;split
 ·unfold talkR;rw [if_pos (by decide)]
 ·split
  ·unfold wordR;rw [if_pos (by decide)]
  ·unfold giveR;rw [if_pos (by decide)]
def DoOutX (w:World)(kb:Nat)(V:RefV)(y:Int×Int×RS)(e':Ending)(w':World):Prop:=
 e'=.returned (.tuple #[.int .i64 y.1,.int .i64 y.2.1])/\∃V',ROut w kb V y.2.2 V' w'
theorem rdo_new (S:RS)(V:RefV)(kb:Nat)(b:Int)(c:Cl)(av tv:Value)(t:Thr)(w:World)(h:RD w kb S V)(hG:GoodR S)
 (hal:c.at_.length<=9000000000000000000) (hl:c.to.length<=9000000000000000000) (hav:IntsAt w av c.at_) (htv:IntsAt w tv c.to)
 (hda:0<c.at_.length->∀k,av.ownBlock=some k->¬V.fq kb k) (hdt:0<c.to.length->∀k,tv.ownBlock=some k->¬V.fq kb k)
 (hk:7<=c.kind/\c.kind<=11) (hfi:S.R.T.find? (af b)=some t) (hst:t.state=1) :
 Calls Tryz.prog 48 #[.pointer (some ⟨kb,0,none⟩),.int .i64 b,.agg (c.cells av tv),.slice none 0 0] w (DoOutX w kb V (newR S b c)):=by
 generalize hyy:newR S b c=y;have HYG:Hid (newR S b c=y):=hyy;clear hyy;have hct:=h.ref.ct;have hklt:kb<w.heap.size:=World.block_lt_of_cell? w _ hct;obtain ⟨b1,b2,b3,b4,b5,_,b7,b8⟩:=hG.bounds;obtain ⟨hRo,_⟩:=hG.ent;have hbT:∃t∈S.R.T,t.base=b:=⟨t,List.mem_of_find?_eq_some hfi,by simpa [af] using List.find?_some hfi⟩;have h1:=fun o:Obj=>h.ref.frame ((Fr.refl w (fun _=>False)).alloc o) (fun _ _=>id)
 rcases idx_cases (af b) S.R.T with ⟨hx,hfi2⟩ | ⟨p,hp,hx,hfi2,_⟩
 ·rw [hfi2] at hfi;cases hfi
 rw [hfi2] at hfi;cases hfi
 obtain ⟨g,cap,htv',hcap,hglt,t0,t1,t2,t3,t4,t5⟩:=thr_cells h.ref p hp;rw [htv'] at hct;clear htv';rw [hst] at t1;have k1:(c.kind==1)=false:=by simp;omega
 have k2:(c.kind==2)=false:=by simp;omega
 have k3:(c.kind==3)=false:=by simp;omega
 have k4:(c.kind==4)=false:=by simp;omega
 have k5:(c.kind==5)=false:=by simp;omega
 have k6:(c.kind==6)=false:=by simp;omega
 have kl:1<=c.kind:=by omega
 have kh:c.kind<=11:=by omega
 rw [Cl.cells_eq];have hz9:w.frozen? ⟨kb,1029,none⟩=false:=h.ref.fz _;have hz0:w.frozen? ⟨kb,1030,none⟩=false:=h.ref.fz _;have hb9:=h.ref.cb;have hb0:=h.ref.cs;have HD:Hid (y=match ax S.R.L S.R.N S.R.T[p].root c.at_ with
  | none=>(0,2,S)
  | some (n,ix)=>match S.R.L.findIdx? (cg n ix) with
   | none=>(0,3,S)
   | some p'=>match S.R.L[p']? with
    | none=>(0,3,S)
    | some e=>newAt S b S.R.T[p].root c e):=by
  show _=_;rw [<- HYG.out];unfold newR;rw [hfi2];simp only;rw [if_neg (by simp [hst])];rfl
 clear HYG;go_enter Tryz.func48,Tryz.ntmps48
 go_wp2_with fail
 refine (cj S.R.T kb V.tv b _ (by omega) (h1 _).ct (h1 _).ltt).mono ?_;rintro e w1 ⟨rfl,rfl⟩;unfold thI;rw [hx];go_wp2_with fail
 have h2:=(h.ref.setBS (.slice none 0 0) (.bool false)).frame ((Fr.refl _ (fun _=>False)).alloc (Obj.cells #[.int .i64 c.kind,av,tv,.int .i64 c.ty,.int .i64 c.bits,.int .i64 c.count,.int .i64 c.rights,.int .i64 c.badge,.int .i64 c.value,.int .i64 c.offset] 41)) (fun _ _=>id);have hf2:Fr w (((w.setCell ⟨kb,1029,none⟩ (.slice none 0 0)).setCell ⟨kb,1030,none⟩ (.bool false)).alloc (Obj.cells #[.int .i64 c.kind,av,tv,.int .i64 c.ty,.int .i64 c.bits,.int .i64 c.count,.int .i64 c.rights,.int .i64 c.badge,.int .i64 c.value,.int .i64 c.offset] 41)) (fun k=>k=kb):=
  (((Fr.refl w (fun k=>k=kb)).setCell (.inl rfl) _ _).setCell (.inl rfl) _ _).alloc _
 have hba:=heap_alloc_new ((w.setCell ⟨kb,1029,none⟩ (.slice none 0 0)).setCell ⟨kb,1030,none⟩ (.bool false)) (Obj.cells #[.int .i64 c.kind,av,tv,.int .i64 c.ty,.int .i64 c.bits,.int .i64 c.count,.int .i64 c.rights,.int .i64 c.badge,.int .i64 c.value,.int .i64 c.offset] 41);rw [be,be] at hba;generalize ((w.setCell ⟨kb,1029,none⟩ (.slice none 0 0)).setCell ⟨kb,1030,none⟩ (.bool false)).alloc (Obj.cells #[.int .i64 c.kind,av,tv,.int .i64 c.ty,.int .i64 c.bits,.int .i64 c.count,.int .i64 c.rights,.int .i64 c.badge,.int .i64 c.value,.int .i64 c.offset] 41)=W2 at *
 have hRD2:RD W2 kb S {V with bv:=.slice none 0 0,sv:=.bool false}:=⟨h2,h.ws,hf2.owns h.d (fun k hk e=>h.dk k hk (.inl e)),h.dk,hf2.owns h.q (fun k hk e=>(h.qk k hk).1 (.inl e)),h.qk⟩
 have hO2:ROut w kb V S {V with bv:=.slice none 0 0,sv:=.bool false} W2:=⟨hRD2,hf2.mono (fun k hk=>.inl (.inl hk)),fun k hk=>.inl hk⟩
 have hav2:=hav.fr' hO2.fr hda;have htv2:=htv.fr' hO2.fr hdt;clear h2 hRD2 hf2 hav htv hda hdt hb9 hb0 hz9 hz0 h1 t0 t1 t2 t3 t4 t5 hct;generalize ({V with bv:=.slice none 0 0,sv:=.bool false}:RefV)=V2 at *
 refine (find_any S.R.L S.R.N kb V2.lv V2.nv av S.R.T[p].root c.at_ W2 (by omega) (by omega) hal hO2.rd.ref.cl hO2.rd.ref.ll hO2.rd.ref.cn hO2.rd.ref.lnn hRo.b hav2).mono ?_;rintro e w3 ⟨rfl,q,rfl⟩;cases hf:ax S.R.L S.R.N S.R.T[p].root c.at_ with
 | none=>
  have HD2:Hid (y=(0,2,S)):=by show _=_;rw [HD.out,hf]
  dsimp only [ans3];clear HD hf;go_wp2;go_ret2;rw [HD2.out];exact ⟨rfl,V2,hO2.drewN q⟩
 | some ni=>
  obtain ⟨n,ix⟩:=ni;have HD2:Hid (y=match S.R.L.findIdx? (cg n ix) with
   | none=>(0,3,S)
   | some p'=>match S.R.L[p']? with
    | none=>(0,3,S)
    | some e=>newAt S b S.R.T[p].root c e):=by show _=_;rw [HD.out,hf]
  dsimp only [ans3];clear HD hf;go_wp2_with fail
  have hO3:=hO2.drewN q;have htv3:IntsAt (W2.drewN q) tv c.to:=htv2;have hba3:(W2.drewN q).heap[w.heap.size]?=_:=hba;clear hO2 htv2 hba hav2;generalize W2.drewN q=W3 at *
  refine (at_any S.R.L kb V2.lv n ix W3 (by omega) hO3.rd.ref.cl hO3.rd.ref.ll).mono ?_;rintro e w4 ⟨rfl,rfl⟩;have kk0:=aa (o:=0) hba3 rfl;have hsw:w.heap.size<w4.heap.size:=(Array.getElem?_eq_some_iff.1 hba3).1;have hkw:kb<w4.heap.size:=by omega
  go_upto_if 96 with fail
  go_cut [104] (fun _ wx=>∃e:Ent,EntOk S e/\Hid (y=newAt S b S.R.T[p].root c e)/\wx.heap[w4.heap.size]?=some (.cells #[.int .i64 e.ty,.int .i64 e.base,.int .i64 e.bits,.int .i64 e.rights,.int .i64 e.badge,.int .i64 e.mark] 46)/\Fr w4 wx (fun _=>False))
  case first=>
   cases hidx:S.R.L.findIdx? (cg n ix) with
   | none=>
    have HX:Hid (atI S.R.L n ix=-1):=by show _=_;unfold atI;rw [hidx];rfl
    have HD3:Hid (y=newAt S b S.R.T[p].root c noEnt):=by show _=_;rw [HD2.out,hidx,newAt_no]
    rw [HX.out];clear HD2 hidx;go_wp2;rw [<- HX.out];go_meet;case rel=>exact ⟨noEnt,noEnt_ok S,HD3,heap_alloc_new _ _,(Fr.refl _ _).alloc _⟩
   | some p2=>
    obtain ⟨hp2,_⟩:=List.findIdx?_eq_some_iff_getElem.1 hidx;have HX:Hid (atI S.R.L n ix=(p2:Int)):=by show _=_;unfold atI;rw [hidx];rfl
    have HD3:Hid (y=newAt S b S.R.T[p].root c S.R.L[p2]):=by show _=_;rw [HD2.out,hidx];simp only [List.getElem?_eq_getElem hp2]
    rw [HX.out];obtain ⟨g2,cap2,hlv2,hcap2,hglt2,d0,d1,d2,d3,d4,d5,d6,d7,d8⟩:=c_ hO3.rd.ref p2 hp2;have hc3:=hO3.rd.ref.cl;rw [hlv2] at hc3;clear hlv2 HD2 hidx;go_wp2;rw [<- HX.out];go_meet;case rel=>exact ⟨S.R.L[p2],hG.held p2 hp2,HD3,heap_alloc_new _ _,(Fr.refl _ _).alloc _⟩
  case rest=>
   obtain ⟨e,hE,HY,hbE,hf4⟩:=hcut;have hO4:ROut w kb V S V2 wc:=⟨hO3.rd.frame hf4 (fun _ _=>id),hO3.fr.step hf4 (fun _=>False.elim),hO3.new⟩;have hbC:=hf4.same hba3 id;have htv4:=htv3.fr hf4 (fun _ _=>id);clear hO3 hba3 htv3 HD2 kk0;have kk0:=aa (o:=0) hbC rfl;have kk1:=aa (o:=1) hbC rfl;have kk2:=aa (o:=2) hbC rfl;have kk3:=aa (o:=3) hbC rfl;have kk4:=aa (o:=4) hbC rfl;have kk5:=aa (o:=5) hbC rfl;have kk6:=aa (o:=6) hbC rfl;have kk7:=aa (o:=7) hbC rfl;have kk8:=aa (o:=8) hbC rfl;have kk9:=aa (o:=9) hbC rfl;have ee0:=aa (o:=0) hbE rfl;have ee1:=aa (o:=1) hbE rfl;have ee2:=aa (o:=2) hbE rfl;have ee3:=aa (o:=3) hbE rfl;have ee4:=aa (o:=4) hbE rfl;have ee5:=aa (o:=5) hbE rfl;have hs1:w.heap.size<wc.heap.size:=(Array.getElem?_eq_some_iff.1 hbC).1;have hs2:w4.heap.size<wc.heap.size:=(Array.getElem?_eq_some_iff.1 hbE).1;by_cases e78:c.kind=7\/c.kind=8
   ·have HY2:Hid (y=(0,talkR S b c e)):=by show _=_;rw [HY.out];unfold newAt;rw [if_pos e78]
    have hT:=talk_any S V2 kb b c av tv e wc hO4.rd b3 b8 hbT e78 hE.r;rw [Cl.cells_eq] at hT;unfold capE at hT;have hK:(c.kind==7)=true\/((c.kind==7)=false/\(c.kind==8)=true):=by
     rcases e78 with e | e
     ·left;rw [e];rfl
     ·right;rw [e];exact ⟨rfl,rfl⟩
    clear HY e78 hk kl kh;rcases hK with k7 | ⟨k7,k8⟩;all_goals
     go_wp2_with (go_at_call 87;go_must (refine hT.mono ?_);rintro e' W6 ⟨rfl,V6,hO6⟩)
     go_ret2;rw [HY2.out];exact ⟨rfl,V6,hO4.trans hO6⟩
   have k7:(c.kind==7)=false:=by simp;omega
   have k8:(c.kind==8)=false:=by simp;omega
   by_cases e90:c.kind=9\/c.kind=10
   ·have HY2:Hid (y=wordR S c e):=by show _=_;rw [HY.out];unfold newAt;rw [if_neg e78,if_pos e90]
    have hT:=word_any S V2 kb c av tv e wc hO4.rd e90 hE.r hE.f;rw [Cl.cells_eq] at hT;unfold capE at hT;have hK:(c.kind==9)=true\/((c.kind==9)=false/\(c.kind==10)=true):=by
     rcases e90 with e | e
     ·left;rw [e];rfl
     ·right;rw [e];exact ⟨rfl,rfl⟩
    clear HY e78 e90 hk kl kh;rcases hK with k9 | ⟨k9,k10⟩;all_goals
     go_wp2_with (go_at_call 88;go_must (refine hT.mono ?_);rintro e' W6 ⟨rfl,V6,hO6⟩)
     go_ret2;rw [HY2.out];exact ⟨rfl,V6,hO4.trans hO6⟩
   have k9:(c.kind==9)=false:=by simp;omega
   have k10:(c.kind==10)=false:=by simp;omega
   have HY2:Hid (y=(0,giveR S S.R.T[p].root c e)):=by show _=_;rw [HY.out];unfold newAt;rw [if_neg e78,if_neg e90]
   have hT:=give_any S V2 kb S.R.T[p].root c av tv e wc hO4.rd b1 b2 b3 hRo.b hl htv4 hE.t;rw [Cl.cells_eq] at hT;unfold capE at hT;clear HY e78 e90 hk kl kh;go_wp2_with (go_at_call 89;go_must (refine hT.mono ?_);rintro e' W6 ⟨rfl,V6,hO6⟩)
   go_ret2;rw [HY2.out];exact ⟨rfl,V6,hO4.trans hO6⟩
theorem rdo_x (S:RS)(V:RefV)(kb:Nat)(b:Int)(c:Cl)(av tv:Value)(w:World)(h:RD w kb S V)(hG:GoodR S)
 (hal:c.at_.length<=9000000000000000000) (hl:c.to.length<=9000000000000000000) (hav:IntsAt w av c.at_) (htv:IntsAt w tv c.to)
 (hda:0<c.at_.length->∀k,av.ownBlock=some k->¬V.fq kb k) (hdt:0<c.to.length->∀k,tv.ownBlock=some k->¬V.fq kb k) :
 Calls Tryz.prog 48 #[.pointer (some ⟨kb,0,none⟩),.int .i64 b,.agg (c.cells av tv),.slice none 0 0] w (DoOutX w kb V (doRX S b c [])):=by
 by_cases hk:7<=c.kind/\c.kind<=11
 ·rw [show doRX S b c []=newR S b c from if_pos hk];by_cases hno:∀t,S.R.T.find? (af b)=some t->t.state≠1
  ·refine (rdo_no S.R V kb b c av tv _ w h.ref (hG.ent).1.o (fun t ht=>.inl (hno t ht))).mono ?_
   rintro e w' ⟨rfl,V',h1,h2,h3,h4,h5,h6⟩;have hd:newR S b c=(0,1,S)/\doR S.R b c=(1,S.R):=by
    unfold newR doR;cases hf:S.R.T.find? (af b) with
    | none=>exact ⟨rfl,rfl⟩
    | some t=>
     simp only;rw [if_pos (hno t hf),if_pos (hno t hf)];exact ⟨rfl,rfl⟩
   rw [hd.2] at h1 ⊢;rw [hd.1];exact ⟨rfl,V',ROut.of h h1 h2 h3 h4 h5 h6⟩
  ·simp only [Classical.not_forall] at hno;obtain ⟨t,ht,hn⟩:=hno;exact rdo_new S V kb b c av tv t w h hG hal hl hav htv hda hdt hk ht (Decidable.not_not.1 hn)
 ·rw [show doRX S b c []=(0,doRB S b c []) from if_neg hk];exact rdo_any S V kb b c av tv w h hG hal hl hav htv hda hdt (by omega)
structure SideD where
 sb:Nat
 kx:Nat
 ky:Nat
 VK:KerV
 R:Ref
 ws:Nat->Int
 q:List Wt
 VR:RefV
def SideD.fp (D:SideD)(k:Nat):Prop:=k=D.sb\/D.VK.fd D.kx k\/D.VR.fq D.ky k
structure SideOk (w:World)(D:SideD):Prop where
 side:SideAt w D.sb D.kx D.ky
 kd:KD w D.kx ⟨D.VK.ker,[]⟩ D.VK
 rd:RD w D.ky ⟨D.R,[],D.ws,D.q⟩ D.VR
 ag:Ag ⟨D.R,[],D.ws,D.q⟩ ⟨D.VK.ker,[]⟩
 ge:∀k,D.VK.fd D.kx k->2<=k
 wb:∀i,0<=D.ws i/\D.ws i<=4294967295
 a1:¬D.VK.fd D.kx D.sb
 a2:¬D.VR.fq D.ky D.sb
 a3:∀k,D.VK.fd D.kx k->¬D.VR.fq D.ky k
theorem SideOk.ker {w:World}{D:SideD}(h:SideOk w D):KerAt w D.kx D.VK:=h.kd.ker
theorem SideOk.ref {w:World}{D:SideD}(h:SideOk w D):RefAt w D.ky D.R D.VR:=h.rd.ref
theorem SideOk.inv {w:World}{D:SideD}(h:SideOk w D):Core D.R D.VK.ker []:=h.ag.core
theorem SideOk.good {w:World}{D:SideD}(h:SideOk w D):KGood ⟨D.VK.ker,[]⟩:=⟨_,h.ag⟩
theorem KD.fdLt {w:World}{kb:Nat}{S:KS}{V:KerV}(h:KD w kb S V){k:Nat}(hk:V.fd kb k):k<w.heap.size:=by
 rcases hk with e | e
 ·exact h.ker.fpLt e
 ·exact (h.d.lt k e).2
theorem SideOk.lt {w:World}{D:SideD}(h:SideOk w D){k:Nat}(hk:D.fp k):k<w.heap.size:=by
 rcases hk with rfl | hk | hk
 ·exact (Array.getElem?_eq_some_iff.1 h.side).1
 ·exact h.kd.fdLt hk
 ·exact h.rd.fqLt hk
theorem SideOk.frame {w w':World}{D:SideD}{S:Nat->Prop}(h:SideOk w D)(hf:Fr w w' S)(hs:∀k,D.fp k->¬S k):SideOk w' D:=
 ⟨hf.same h.side (hs _ (.inl rfl)),h.kd.frame hf (fun k hk=>hs k (.inr (.inl hk))),h.rd.frame hf (fun k hk=>hs k (.inr (.inr hk))),h.ag,h.ge,h.wb,h.a1,h.a2,h.a3⟩
structure GameAt (w:World)(wb:Nat)(U:LawV)(D:SideD):Prop where
 law:LawAt w wb U
 good:GoodL w U
 sd:SideOk w D
 sep:∀k,D.fp k->¬U.fp wb k/\¬U.cb k
 m1:(U.rl 1).length % 4=0
 m2:(U.rl 2).length % 4=0
structure GameOut (w:World)(wb:Nat)(U:LawV)(D:SideD)(U':LawV)(D':SideD)(w':World):Prop where
 at_:GameAt w' wb U' D'
 fr:Fr w w' (fun k=>U.fp wb k\/D.fp k)
 fpU:∀k,U'.fp wb k->U.fp wb k\/w.heap.size<=k
 cbU:∀k,U'.cb k->U.cb k\/w.heap.size<=k
 fpD:∀k,D'.fp k->D.fp k\/w.heap.size<=k
 sb:D'.sb=D.sb
 r0:U'.rl 0=U.rl 0
 len:∀j,j<6->(U'.rl j).length<=(U.rl j).length+4
theorem GameAt.frame {w w':World}{wb:Nat}{U:LawV}{D:SideD}(h:GameAt w wb U D)(hf:Fr w w' (fun _=>False)):GameAt w' wb U D:=
 ⟨h.law.frame hf (fun _ _=>id),h.good.frame hf (fun _ _=>id),h.sd.frame hf (fun _ _=>id),h.sep,h.m1,h.m2⟩
theorem GameOut.same {w w':World}{wb:Nat}{U:LawV}{D:SideD}(h:GameAt w wb U D)(hf:Fr w w' (fun _=>False)):GameOut w wb U D U D w':=
 ⟨h.frame hf,hf.mono (fun _=>False.elim),fun _ hk=>.inl hk,fun _ hk=>.inl hk,fun _ hk=>.inl hk,rfl,rfl,fun _ _=>by omega⟩
theorem GoodL.addE {w w':World}{wb:Nat}{U U':LawV}{vs:List Value}{X:Nat->Prop}(hL:LawAt w wb U)(h:GoodL w U)(ha:AddOut w wb U U' 1 vs X w')(hX:∀k,X k->¬U.cb k)(hl:vs.length=4)
 (hf:∀v∈vs,Filled w' (entFill (-1-((U.rl 1).length:Int))) v) (hm:(U.rl 1).length % 4=0):GoodL w' U':=by
 have h1:=h.frame ha.out.fr (fun k hk hs=>by rcases hs with e | e;exact hL.cont k hk e;exact hX k e hk);refine ⟨fun i v hv=>?_,fun i v hv=>h1.d i v (by rw [ha.rl] at hv;simpa using hv),fun i v hv=>h1.i i v (by rw [ha.rl] at hv;simpa using hv),by rw [ha.rl];simpa using h1.bx,fun i v x hv hx=>h1.b i v x (by rw [ha.rl] at hv;simpa using hv) (by rw [ha.rl] at hx;simpa using hx)⟩
 rw [ha.rl] at hv;simp only [if_true] at hv;by_cases hi:i<(U.rl 1).length
 ·exact h1.e i v (by rw [List.getElem?_append_left hi] at hv;exact hv)
 ·rw [List.getElem?_append_right (by omega)] at hv;have hlt:=(List.getElem?_eq_some_iff.1 hv).1;have e:i / 4*4=(U.rl 1).length:=by omega
  rw [e];exact hf v (mem_of_get hv)
theorem GoodL.addD {w w':World}{wb:Nat}{U U':LawV}{vs:List Value}{X:Nat->Prop}(hL:LawAt w wb U)(h:GoodL w U)(ha:AddOut w wb U U' 2 vs X w')(hX:∀k,X k->¬U.cb k)(hl:vs.length=4)
 (hf:∀v∈vs,Filled w' (doomFill (-1-((U.rl 2).length:Int))) v) (hm:(U.rl 2).length % 4=0):GoodL w' U':=by
 have h1:=h.frame ha.out.fr (fun k hk hs=>by rcases hs with e | e;exact hL.cont k hk e;exact hX k e hk);refine ⟨fun i v hv=>h1.e i v (by rw [ha.rl] at hv;simpa using hv),fun i v hv=>?_,fun i v hv=>h1.i i v (by rw [ha.rl] at hv;simpa using hv),by rw [ha.rl];simpa using h1.bx,fun i v x hv hx=>h1.b i v x (by rw [ha.rl] at hv;simpa using hv) (by rw [ha.rl] at hx;simpa using hx)⟩
 rw [ha.rl] at hv;simp only [if_true] at hv;by_cases hi:i<(U.rl 2).length
 ·exact h1.d i v (by rw [List.getElem?_append_left hi] at hv;exact hv)
 ·rw [List.getElem?_append_right (by omega)] at hv;have hlt:=(List.getElem?_eq_some_iff.1 hv).1;have e:i / 4*4=(U.rl 2).length:=by omega
  rw [e];exact hf v (mem_of_get hv)
theorem GameAt.kept {w W w':World}{wb:Nat}{U U':LawV}{D:SideD}{li:Nat}{vs:List Value}{X:Nat->Prop}(h:GameAt w wb U D)(hf:Fr w W (fun _=>False))(ha:AddOut W wb U U' li vs X w')(hX:∀k,X k->w.heap.size<=k)(hl:vs.length=4)(hli:li=1\/li=2)
 (hg:GoodL w' U'):GameOut w wb U D U' D w':=by
 have ho:=ha.out;have hfr:Fr w w' (fun k=>U.fp wb k\/D.fp k):=(hf.mono (fun _=>False.elim)).step ho.fr (fun k hk=>by rcases hk with e | e;exact .inl (.inl e);exact .inr (hX k e))
 have hsz:=hf.size;refine ⟨⟨ho.at_,hg,h.sd.frame ((hf.mono (fun _=>False.elim):Fr w W (fun k=>U.fp wb k\/X k)).step ho.fr (fun k hk=>.inl hk)) (fun k hk hs=>?_),fun k hk=>⟨fun e=>?_,fun e=>?_⟩,?_,?_⟩,hfr,fun k hk=>(ho.fp k hk).imp id (fun e=>by omega),fun k hk=>?_,fun k hk=>.inl hk,rfl,?_,?_⟩
 ·rcases hs with e | e
  ·exact (h.sep k hk).1 e
  ·have:=h.sd.lt hk;have:=hX k e;omega
 ·rcases ho.fp k e with e | e
  ·exact (h.sep k hk).1 e
  ·have:=h.sd.lt hk;omega
 ·rcases ho.cb k e with e | e | e
  ·exact (h.sep k hk).2 e
  ·have:=h.sd.lt hk;have:=hX k e;omega
  ·have:=h.sd.lt hk;omega
 ·rw [ha.rl];have:=h.m1;rcases hli with rfl | rfl
  ·simp [hl];omega
  ·simpa using this
 ·rw [ha.rl];have:=h.m2;rcases hli with rfl | rfl
  ·simpa using this
  ·simp [hl];omega
 ·rcases ho.cb k hk with e | e | e
  ·exact .inl e
  ·exact .inr (hX k e)
  ·exact .inr (by omega)
 ·rw [ha.rl];rcases hli with rfl | rfl<;>simp
 ·intro j hj;rw [ha.rl];dsimp only;split
  ·rw [List.length_append,hl];omega
  ·omega
structure AEntAt (w:World)(g o:Nat)(e:AEnt):Prop where
 c0:w.cell? ⟨g,o,none⟩=some (.int .i64 e.node)
 c1:w.cell? ⟨g,o+1,none⟩=some (.int .i64 e.index)
 c2:w.cell? ⟨g,o+2,none⟩=some (.int .i64 e.ty)
 c3:w.cell? ⟨g,o+3,none⟩=some (.int .i64 e.base)
 c4:w.cell? ⟨g,o+4,none⟩=some (.int .i64 e.bits)
 c5:w.cell? ⟨g,o+5,none⟩=some (.int .i64 e.rights)
 c6:w.cell? ⟨g,o+6,none⟩=some (.int .i64 e.badge)
 c7:w.cell? ⟨g,o+7,none⟩=some (.int .i64 e.mark)
 c8:w.cell? ⟨g,o+8,none⟩=some (.int .i64 e.parent)
 c9:w.cell? ⟨g,o+9,none⟩=some (.int .i64 e.place)
theorem aentAt {w:World}{g:Nat}{L:List AEnt}(h:∀i (hi:i<L.length) j x,(L[i].vals)[j]?=some x->w.cell? ⟨g,i*10+j,none⟩=some x)(i:Nat)(hi:i<L.length):AEntAt w g (i*10) L[i]:=
 ⟨h i hi 0 _ rfl,h i hi 1 _ rfl,h i hi 2 _ rfl,h i hi 3 _ rfl,h i hi 4 _ rfl,h i hi 5 _ rfl,h i hi 6 _ rfl,h i hi 7 _ rfl,h i hi 8 _ rfl,h i hi 9 _ rfl⟩
theorem SideOk.caps {w:World}{D:SideD}(h:SideOk w D)(hgl:Glob w):
 Calls Tryz.prog 13 #[.pointer (some ⟨D.kx,0,none⟩)] w fun e w'=>∃v,e=.returned v/\w'.ownsRow w.heap.size 48 10 v D.R.L.length (rowA (capsTo D.R.L D.R.L.length))/\Fr w w' (fun _=>False):=by
 obtain ⟨F,hF⟩:=h.inv.rel.tree;obtain ⟨y,hy,hk⟩:=hF.roots;obtain ⟨x,hx,hp,hkx⟩:=look_of_st (V:=D.VK) (s:=nowhere) (x:=y) hy;have hcaps:=h.inv.rel.caps hF;have hl:F.slots.length=D.R.L.length:=by rw [hF.slots];simp
 refine (kcaps_any D.VK D.kx w h.ker hgl F x hF.stands hx (hkx.trans hk) (fun s hs=>(mem_slots h.inv.rel hF).1 hs) (by have:=h.inv.len;omega)).mono ?_
 rintro e w' ⟨v,he,ho,hf⟩;refine ⟨v,he,?_,hf⟩;rw [hcaps,hl] at ho;exact ho
theorem scaps_any (wb:Nat)(U:LawV)(D:SideD)(w:World)(h:GameAt w wb U D)(hgl:Glob w)(hn:∀j,j<6->(U.rl j).length<=80000000):
 Calls Tryz.prog 28 #[.pointer (some ⟨wb,0,none⟩),.pointer (some ⟨D.sb,0,none⟩)] w fun e w'=>e=.returned (.bool true)/\∃U',GameOut w wb U D U' D w':=by
 have s0:w.cell? ⟨D.sb,0,none⟩=some (.pointer (some ⟨D.kx,0,none⟩)):=aa (o:=0) h.sd.side rfl;have s1:w.cell? ⟨D.sb,1,none⟩=some (.pointer (some ⟨D.ky,0,none⟩)):=aa (o:=1) h.sd.side rfl;have hlen:=h.sd.inv.len;have hup:=fun i hi=>h.sd.inv.up i hi
 generalize hL:capsTo D.R.L D.R.L.length=L;have hLl:L.length=D.R.L.length:=by rw [<- hL];exact capsTo_len _ _ (Nat.le_refl _)
 have hcap:=h.sd.caps hgl;rw [hL] at hcap;go_enter Tryz.func28,Tryz.ntmps28
 go_upto_region 2 with (go_at_call 13;refine hcap.mono ?_;rintro e W1 ⟨lv,rfl,hl1,hf1⟩)
 clear hcap;have s1':=hf1.cell s1 id;have hcr:=rcaps_any D.R D.VR D.ky W1 (h.sd.ref.frame hf1 (fun _ _=>id)) (by omega) (fun i hi=>by have:=hup i hi;omega);rw [hL] at hcr;go_upto_region 3 with (go_at_call 52;refine hcr.mono ?_;rintro e W2 ⟨mv,rfl,hm2,hf2⟩)
 clear hcr;have hl2:=hf2.owns hl1 (fun _ _=>id);have hf02:Fr w W2 (fun _=>False):=hf1.step hf2 (fun _=>False.elim);rw [<- hLl] at hl2 hm2;obtain ⟨A,cap,rfl,hA⟩:=bk (f:=AEnt.vals) AEnt.vals_len hl2;obtain ⟨B,cap2,rfl,hB⟩:=bk (f:=AEnt.vals) AEnt.vals_len hm2;have hlL:L.length<=16384:=by omega
 have hlA:∀k,(Value.slice A L.length cap).ownBlock=some k->w.heap.size<=k:=fun k hk=>(hl2.lt k hk).1
 have hl3:=owns_mono hl2 (Nat.zero_le _);clear hL hLl hup hlen hl1 hm2 hl2 s1';go_wp2;go_loopw [7,8] (fun ok i w'=>(∃q,w'=W2.drewN q)/\ok=.bool true/\∃k:Nat,k<=L.length/\i=.int .i64 k) (fun _ i _=>L.length-(intOf i).toNat)
 case atStart=>exact ⟨⟨0,rfl⟩,rfl,0,Nat.zero_le _,rfl⟩
 case round=>
  obtain ⟨⟨q,rfl⟩,rfl,k,hk,rfl⟩:=hrel;by_cases hlt:k<L.length
  ·obtain ⟨g,rfl,hc⟩:=hA (by omega);obtain ⟨g2,rfl,hc2⟩:=hB (by omega);obtain ⟨e0,e1,e2,e3,e4,e5,e6,e7,e8,e9⟩:=aentAt hc k hlt;obtain ⟨d0,d1,d2,d3,d4,d5,d6,d7,d8,d9⟩:=aentAt hc2 k hlt;clear hA hB hc hc2;go_wp2;go_quiet (fail)
   go_wp2;go_roundw;case rel=>exact ⟨⟨_,rfl⟩,rfl,k+1,by omega,by go_num⟩
   case measure=>simp [intOf];omega
  ·have hf3:Fr w (W2.drewN q) (fun _=>False):=hf02.drewN q;have hl4:(W2.drewN q).ownsRow 0 48 10 (.slice A L.length cap) L.length (rowA L):=hl3;clear hA hB hl3;generalize W2.drewN q=W3 at *
   have hkept:=kept_any wb U W3 (h.law.frame hf3 (fun _ _=>id)) (h.good.frame hf3 (fun _ _=>id)) (fun j hj=>by have:=hn j hj;omega);go_upto_region 9 with (go_at_call 16;refine hkept.mono ?_;rintro e W4 ⟨rfl,q4,rfl⟩)
   have hf4:Fr w (W3.drewN q4) (fun _=>False):=hf3.drewN q4;have hl5:(W3.drewN q4).ownsRow 0 48 10 (.slice A L.length cap) L.length (rowA L):=hl4;clear hkept hl4;generalize W3.drewN q4=W5 at *
   have hke:=keepE_any wb U W5 (h.law.frame hf4 (fun _ _=>id)) _ _ _ hl5 (fun k hk e=>by have:=h.law.lt e;have:=hlA k hk;omega) (by omega) (by have:=hn 1 (by omega);omega);go_wp2_with (go_at_call 53;refine hke.mono ?_;rintro e W6 ⟨rfl,U',vs,hv4,hadd,hfil⟩)
   go_ret;refine ⟨rfl,U',h.kept hf4 hadd hlA hv4 (.inl rfl) ?_⟩;exact GoodL.addE (h.law.frame hf4 (fun _ _=>id)) (h.good.frame hf4 (fun _ _=>id)) hadd (fun k hk e=>by have:=h.law.clt k e;have:=hlA k hk;omega) hv4 hfil h.m1
theorem doomed_none (K:Ker)(V:KerV)(kb:Nat)(w:World)(h:KD w kb ⟨K,[]⟩ V):
 Calls Tryz.prog 54 #[.pointer (some ⟨kb,0,none⟩)] w fun e w'=>∃A,e=.returned (.slice A 0 0)/\w'.ownsRow w.heap.size 116 2 (.slice A 0 0) 0 []/\Fr w w' (fun _=>False):=by
 rcases h.d.2 with ⟨e,_⟩ | ⟨g,cap,cur,e,_⟩
 ·refine (doomed_any V kb w h.ker e).mono ?_;rintro e w' ⟨he,hf⟩;exact ⟨none,he,World.ownsRow_nil _ _ _ _,hf⟩
 ·have e:V.dv=.slice (some ⟨g,0,none⟩) 0 cap:=e;obtain ⟨c,hc,hcc⟩:=h.ker.blk;have c1:w.cell? ⟨kb,1027,none⟩=some (.slice (some ⟨g,0,none⟩) 0 cap):=by rw [<- e];exact aa hc hcc.d
  have hne:∀W,(binOp .eql 67 (.slice (some ⟨g,0,none⟩) 0 cap) (.slice none 0 0)).run Tryz.prog W=.ok (.bool false) W:=fun W=>by kernel_rfl
  go_enter Tryz.func54,Tryz.ntmps54
  go_wp2;go_ret;exact ⟨_,rfl,⟨rfl,.inr ⟨w.heap.size,0,#[],rfl,Nat.le_refl _,heap_alloc_new _ _,Nat.le_refl _,by unfold maxLen;omega,rfl,rfl⟩⟩,(Fr.refl _ _).alloc _⟩
theorem sdoomed_any (wb:Nat)(U:LawV)(D:SideD)(w:World)(h:GameAt w wb U D)(hn:∀j,j<6->(U.rl j).length<=80000000):
 Calls Tryz.prog 29 #[.pointer (some ⟨wb,0,none⟩),.pointer (some ⟨D.sb,0,none⟩)] w fun e w'=>e=.returned (.bool true)/\∃U',GameOut w wb U D U' D w':=by
 have s0:w.cell? ⟨D.sb,0,none⟩=some (.pointer (some ⟨D.kx,0,none⟩)):=aa (o:=0) h.sd.side rfl;have s1:w.cell? ⟨D.sb,1,none⟩=some (.pointer (some ⟨D.ky,0,none⟩)):=aa (o:=1) h.sd.side rfl;have hdo:=doomed_none D.VK.ker D.VK D.kx w h.sd.kd;obtain ⟨A2,cap2,hdr⟩:∃A cap,D.VR.dv=.slice A 0 cap:=by
  rcases h.sd.rd.d.2 with ⟨e,_⟩ | ⟨g,cap,cur,e,_⟩
  ·exact ⟨none,0,e⟩
  ·exact ⟨some ⟨g,0,none⟩,cap,e⟩
 go_enter Tryz.func29,Tryz.ntmps29
 go_upto_region 2 with (go_at_call 54;refine hdo.mono ?_;rintro e W1 ⟨A,rfl,hr1,hf1⟩)
 clear hdo;have s1':=hf1.cell s1 id;have d1:W1.cell? ⟨D.ky,1028,none⟩=some (.slice A2 0 cap2):=by
  obtain ⟨c,hc,hcc⟩:=h.sd.ref.blk;rw [<- hdr];exact aa (hf1.same hc id) hcc.d
 have hnew:∀k,(Value.slice A 0 0).ownBlock=some k->w.heap.size<=k:=fun k hk=>(hr1.lt k hk).1
 go_upto_region 4 with fail
 go_wp2;refine wp_loop_rounds 1 ?_;rw [rounds_succ];have hkept:=kept_any wb U W1 (h.law.frame hf1 (fun _ _=>id)) (h.good.frame hf1 (fun _ _=>id)) (fun j hj=>by have:=hn j hj;omega);go_upto_region 9 with (go_at_call 16;refine hkept.mono ?_;rintro e W4 ⟨rfl,q4,rfl⟩)
 have hf4:Fr w (W1.drewN q4) (fun _=>False):=hf1.drewN q4;have hr4:(W1.drewN q4).ownsRow 0 116 2 (.slice A 0 0) 0 []:=owns_mono hr1 (Nat.zero_le _);clear hkept d1 s1' hr1;generalize W1.drewN q4=W5 at *
 have hke:=keepD_any wb U W5 (h.law.frame hf4 (fun _ _=>id)) (.slice A 0 0) 0 [] hr4 (fun k hk e=>by have:=hnew k hk;have:=h.law.lt e;omega) (by omega) (by have:=hn 2 (by omega);omega);go_wp2_with (go_at_call 55;refine hke.mono ?_;rintro e W6 ⟨rfl,U',vs,hv4,hadd,hfil⟩)
 go_ret;refine ⟨rfl,U',h.kept hf4 hadd hnew hv4 (.inr rfl) ?_⟩;exact GoodL.addD (h.law.frame hf4 (fun _ _=>id)) (h.good.frame hf4 (fun _ _=>id)) hadd (fun k hk e=>by have:=hnew k hk;have:=h.law.clt k e;omega) hv4 hfil h.m2
def opVal (ask th:Int)(c:Cl)(av tv bv:Value)(n:Int)(which:Bool):Value:=
 .agg #[.int .i64 ask,.int .i64 th,.int .i64 c.kind,av,tv,.int .i64 c.ty,.int .i64 c.bits,.int .i64 c.count,.int .i64 c.rights,.int .i64 c.badge,.int .i64 c.value,.int .i64 c.offset,bv,.int .i64 n,.bool which]
theorem infoBools:(Tryz.prog.info? 54).map (fun i=>(i.zero,i.size,i.bytes))=some (some (.slice none 0 0),1,24):=by kernel_rfl
theorem infoBool:(Tryz.prog.info? 4).map (fun i=>(i.zero,i.size,i.bytes))=some (some (.bool false),1,1):=by kernel_rfl
theorem sizeBool:(Tryz.prog.info? 4).map (·.size)=some 1:=by kernel_rfl
theorem madeB1:madeCells #[Value.bool false] 1=#[Value.bool false]:=by
 simp only [madeCells];rw [show Array.range 1=#[0] by decide];simp
theorem SideOk.after {w W6 W7 W8:World}{D:SideD}{VK':KerV}{R':Ref}{ws':Nat->Int}{q':List Wt}{VR':RefV}(h:SideOk w D)(hF6:Fr w W6 (fun _=>False))(hf7:Fr W6 W7 (D.VK.fd D.kx))(hk7:KD W7 D.kx ⟨VK'.ker,[]⟩ VK')(hge7:∀k,VK'.fd D.kx k->2<=k)(hfp7:∀k,VK'.fd D.kx k->D.VK.fd D.kx k\/W6.heap.size<=k)
 (hf8:Fr W7 W8 (D.VR.fq D.ky)) (hr8:RD W8 D.ky ⟨R',[],ws',q'⟩ VR') (hfp8:∀k,VR'.fq D.ky k->D.VR.fq D.ky k\/W7.heap.size<=k) (hag:Ag ⟨R',[],ws',q'⟩ ⟨VK'.ker,[]⟩) (hwb:∀i,0<=ws' i/\ws' i<=4294967295) :
 SideOk W8 {D with VK:=VK',R:=R',ws:=ws',q:=q',VR:=VR'}/\Fr w W8 D.fp/\∀k,SideD.fp {D with VK:=VK',R:=R',ws:=ws',q:=q',VR:=VR'} k->D.fp k\/W6.heap.size<=k:=by
 have l6:=hF6.size;have l7:=hf7.size;have hsb:=(Array.getElem?_eq_some_iff.1 h.side).1;have key:∀k,VK'.fd D.kx k->¬D.VR.fq D.ky k:=by
  intro k hk hr;rcases hfp7 k hk with e | e
  ·exact h.a3 k e hr
  ·have:=h.rd.fqLt hr;omega
 refine ⟨⟨?_,hk7.frame hf8 key,hr8,hag,hge7,hwb,?_,?_,?_⟩,?_,?_⟩
 ·exact hf8.same (hf7.same (hF6.same h.side id) h.a1) h.a2
 ·intro e;rcases hfp7 _ e with e | e
  ·exact h.a1 e
  ·have:W6.heap.size<=D.sb:=e;omega
 ·intro e;rcases hfp8 _ e with e | e
  ·exact h.a2 e
  ·have:W7.heap.size<=D.sb:=e;omega
 ·intro k hk hr;rcases hfp8 k hr with e | e
  ·exact key k hk e
  ·have:=hk7.fdLt hk;omega
 ·exact ((hF6.mono (fun _=>False.elim)).step hf7 (fun k hk=>.inl (.inr (.inl hk)))).step hf8 (fun k hk=>.inl (.inr (.inr hk)))
 ·rintro k (e | e | e)
  ·exact .inl (.inl e)
  ·rcases hfp7 k e with e | e
   ·exact .inl (.inr (.inl e))
   ·exact .inr e
  ·rcases hfp8 k e with e | e
   ·exact .inl (.inr (.inr e))
   ·exact .inr (by omega)
theorem does_done {w W6 W8 W:World}{wb:Nat}{U U':LawV}{D D':SideD}{gA gT gB:Nat}{vA vT vB vW:Value}(h:GameAt w wb U D)(hw68:W6.heap.size<=W8.heap.size)(hg:w.heap.size<=gA/\w.heap.size<=gT/\w.heap.size<=gB/\gA<W6.heap.size/\gT<W6.heap.size/\gB<W6.heap.size)
 (hF8:Fr w W8 D.fp) (hsd8:SideOk W8 D') (hfpD:∀k,D'.fp k->D.fp k\/W6.heap.size<=k) (hDsb:D'.sb=D.sb) (hF:Fr W8 W (fun k=>U.fp wb k\/k=gA\/k=gT\/k=gB)) (hL:LawAt W wb U')
 (hrl:U'.rl=fun j=>if j=3 then U.rl 3++[vA]++[vT] else if j=4 then U.rl 4++[vB] else if j=5 then U.rl 5++[vW] else U.rl j) (hfU:∀k,U'.fp wb k->U.fp wb k\/W8.heap.size<=k) (hcb:∀k,U'.cb k->U.cb k\/k=gA\/k=gT\/k=gB\/W8.heap.size<=k)
 (fA:Filled W [.int .i64 (-7)] vA) (fT:Filled W [.int .i64 (-7)] vT) (fB:∃l:List Bool,l.length<=3000000/\LBoolsAt W vB l/\LBoolsAt W vW l):GameOut w wb U D U' D' W:=by
 have hG8:GoodL W8 U:=h.good.frame hF8 (fun k hk e=>(h.sep k e).2 hk)
 have hsD:∀k,D'.fp k->¬(U.fp wb k\/k=gA\/k=gT\/k=gB):=by
  rintro k hk e;rcases hfpD k hk with e1 | e1
  ·have:=h.sd.lt e1;rcases e with e | e | e | e
   ·exact (h.sep k e1).1 e
   ·omega
   ·omega
   ·omega
  ·rcases e with e | e | e | e
   ·have:=h.law.lt e;omega
   ·omega
   ·omega
   ·omega
 have hGW:GoodL W U:=hG8.frame hF (fun k hk e=>by
  have:=h.law.clt k hk;rcases e with e | e | e | e
  ·exact h.law.cont k hk e
  ·omega
  ·omega
  ·omega)
 have r0:U'.rl 0=U.rl 0:=by rw [hrl];rfl
 have r1:U'.rl 1=U.rl 1:=by rw [hrl];rfl
 have r2:U'.rl 2=U.rl 2:=by rw [hrl];rfl
 have r3:U'.rl 3=U.rl 3++[vA]++[vT]:=by rw [hrl];rfl
 have r4:U'.rl 4=U.rl 4++[vB]:=by rw [hrl];rfl
 have r5:U'.rl 5=U.rl 5++[vW]:=by rw [hrl];rfl
 refine ⟨⟨hL,⟨?_,?_,?_,?_,?_⟩,hsd8.frame hF hsD,fun k hk=>⟨fun e=>?_,fun e=>?_⟩,by rw [r1];exact h.m1,by rw [r2];exact h.m2⟩,?_,fun k hk=>(hfU k hk).imp id (fun e=>by omega),fun k hk=>?_,fun k hk=>(hfpD k hk).imp id (fun e=>by omega),hDsb,r0,?_⟩
 ·intro i v hv;rw [r1] at hv;exact hGW.e i v hv
 ·intro i v hv;rw [r2] at hv;exact hGW.d i v hv
 ·intro i v hv;rw [r3] at hv;by_cases h1:i<(U.rl 3).length
  ·rw [List.getElem?_append_left (by simp;omega),List.getElem?_append_left h1] at hv;exact hGW.i i v hv
  ·have hm:=mem_of_get hv;by_cases h2:i=(U.rl 3).length
   ·subst h2;simp at hv;subst hv;exact fA
   ·have h3:=(List.getElem?_eq_some_iff.1 hv).1;simp at h3;have:i=(U.rl 3).length+1:=by omega
    subst this;rw [List.getElem?_append_right (by simp)] at hv;simp at hv;subst hv;exact fT
 ·rw [r4,r5];simp [hGW.bx]
 ·intro i v x hv hx;rw [r4] at hv;rw [r5] at hx;by_cases h1:i<(U.rl 4).length
  ·rw [List.getElem?_append_left h1] at hv;rw [List.getElem?_append_left (by rw [<- hGW.bx];exact h1)] at hx;exact hGW.b i v x hv hx
  ·have h3:=(List.getElem?_eq_some_iff.1 hv).1;simp at h3;have:i=(U.rl 4).length:=by omega
   subst this;simp at hv;rw [hGW.bx] at hx;simp at hx;subst hv;subst hx;exact fB
 ·have hl8:=hsd8.lt hk;rcases hfU k e with e | e
  ·exact hsD k hk (.inl e)
  ·omega
 ·have hl8:=hsd8.lt hk;rcases hcb k e with e | e | e | e | e
  ·rcases hfpD k hk with e1 | e1
   ·exact (h.sep k e1).2 e
   ·have:=h.law.clt k e;omega
  ·exact hsD k hk (.inr (.inl e))
  ·exact hsD k hk (.inr (.inr (.inl e)))
  ·exact hsD k hk (.inr (.inr (.inr e)))
  ·omega
 ·exact (hF8.mono (fun k hk=>.inr hk)).step hF (fun k hk=>by
   rcases hk with e | e | e | e
   ·exact .inl (.inl e)
   ·exact .inr (by omega)
   ·exact .inr (by omega)
   ·exact .inr (by omega))
 ·rcases hcb k hk with e | e | e | e | e
  ·exact .inl e
  ·exact .inr (by omega)
  ·exact .inr (by omega)
  ·exact .inr (by omega)
  ·exact .inr (by omega)
 ·intro j hj;have:j=0\/j=1\/j=2\/j=3\/j=4\/j=5:=by omega
  rcases this with rfl | rfl | rfl | rfl | rfl | rfl
  ·rw [r0];omega
  ·rw [r1];omega
  ·rw [r2];omega
  ·rw [r3];simp
  ·rw [r4];simp
  ·rw [r5];simp
theorem does_none (wb:Nat)(U:LawV)(D:SideD)(w:World)(h:GameAt w wb U D)(hgl:Glob w)(ask th n:Int)(which:Bool)(c:Cl)(av tv:Value)(hav:IntsAt w av c.at_)(htv:IntsAt w tv c.to)(hal:c.at_.length<=1048576)(htl:c.to.length<=1048576)
 (hda:0<c.at_.length->∀k,av.ownBlock=some k->k<w.heap.size/\¬U.fp wb k/\¬D.fp k) (hdt:0<c.to.length->∀k,tv.ownBlock=some k->k<w.heap.size/\¬U.fp wb k/\¬D.fp k) (hth0:-9223372036854775808<=th) (hth1:th<=9223372036854775807) (hn:∀j,j<6->(U.rl j).length<=80000000) :
 Calls Tryz.prog 25 #[.pointer (some ⟨wb,0,none⟩),.pointer (some ⟨D.sb,0,none⟩),opVal ask th c av tv (.slice none 0 0) n which] w fun e w'=>e=.returned (.bool true)/\∃U' D',GameOut w wb U D U' D' w':=by
 have hmk:∀w':World,(Instr.makeSlice 54 (.int .i64 1) (.int .i64 1)).run Tryz.prog w'=.ok (.slice (some ⟨w'.heap.size,0,none⟩) 1 1) (w'.alloc (.cells #[.bool false] 4)):=fun w'=>by
  have hx:=run_make_row' 54 4 (.bool false) 1 Tryz.underlying54 infoBool rfl .i64 .i64 1 (by omega) (by omega) w';rw [madeB1] at hx;exact hx
 obtain ⟨iB,hiB,hB0,hB1,hB2⟩:=info_parts infoBool;obtain ⟨iL,hiL,hL0,hL1,hL2⟩:=info_parts infoBools;obtain ⟨A,capA,rfl,hA⟩:=hav;obtain ⟨B,capB,rfl,hB⟩:=htv;unfold opVal;go_enter Tryz.func25,Tryz.ntmps25
 go_upto_region 1 with fail
 generalize hW1:w.alloc _=W1;have hf1:Fr w W1 (fun _=>False):=by rw [<- hW1];exact (Fr.refl _ _).alloc _
 have hb5:W1.heap[w.heap.size]?=some (.cells #[.int .i64 ask,.int .i64 th,.int .i64 c.kind,.slice A c.at_.length capA,.slice B c.to.length capB,.int .i64 c.ty,.int .i64 c.bits,.int .i64 c.count,.int .i64 c.rights,.int .i64 c.badge,.int .i64 c.value,.int .i64 c.offset,.slice none 0 0,.int .i64 n,.bool which] 56 (0,0)):=by rw [<- hW1];exact heap_alloc_new _ _
 have hs1:w.heap.size<W1.heap.size:=(Array.getElem?_eq_some_iff.1 hb5).1;clear hW1;have p3:=aa (o:=3) hb5 rfl;have hlA:=lent_any (.slice A c.at_.length capA) c.at_ W1 (by omega) ⟨A,capA,rfl,fun h0=>by obtain ⟨g,o,e,hc⟩:=hA h0;exact ⟨g,o,e,fun i hi=>hf1.cell (hc i hi) id⟩⟩
 go_upto_region 2 with (go_at_call 47;refine hlA.mono ?_;rintro e W2 ⟨rfl,hbA,hf2⟩)
 clear hlA p3;have hb5':=hf2.same hb5 id;have hF2:Fr w W2 (fun _=>False):=hf1.step hf2 (fun _=>False.elim);have hs2:=(Array.getElem?_eq_some_iff.1 hbA).1;have p4:=aa (o:=4) hb5' rfl;have hlB:=lent_any (.slice B c.to.length capB) c.to W2 (by omega) ⟨B,capB,rfl,fun h0=>by obtain ⟨g,o,e,hc⟩:=hB h0;exact ⟨g,o,e,fun i hi=>hF2.cell (hc i hi) id⟩⟩
 go_upto_region 3 with (go_at_call 47;refine hlB.mono ?_;rintro e W3 ⟨rfl,hbT,hf3⟩)
 clear hlB p4;have hb5:=hf3.same hb5' id;have hbA3:=hf3.same hbA id;have hF3:Fr w W3 (fun _=>False):=hF2.step hf3 (fun _=>False.elim);have hs3:=(Array.getElem?_eq_some_iff.1 hbT).1;clear hb5' hbA;have hgo0:w.heap.size<W1.heap.size/\W1.heap.size<W2.heap.size/\W2.heap.size<W3.heap.size:=⟨hs1,by have:=hf2.size;omega,hs3⟩;clear hf2 hf3 hF2 hf1 hs1 hs2 hs3;generalize hgA:W1.heap.size=gA at *
 generalize hgT:W2.heap.size=gT at *
 generalize hBo:w.heap.size=Bo at *
 obtain ⟨hgo1,hgo2,hgo3⟩:=hgo0;clear hgA hgT;have p12:=aa (o:=12) hb5 rfl;have hlt3:Bo<W3.heap.size:=by omega
 go_upto_region 4 with fail
 clear hmk p12;generalize hW4:W3.alloc _=W4;have hf4:Fr W3 W4 (fun _=>False):=by rw [<- hW4];exact (Fr.refl _ _).alloc _
 have hbB:W4.heap[W3.heap.size]?=some (.cells #[.bool false] 4 (0,0)):=by rw [<- hW4];exact heap_alloc_new _ _
 have hs4:=(Array.getElem?_eq_some_iff.1 hbB).1;have hF4:Fr w W4 (fun _=>False):=hF3.step hf4 (fun _=>False.elim);have hb5:=hf4.same hb5 id;have hbA:=hf4.same hbA3 id;have hbT:=hf4.same hbT id;clear hW4 hf4 hF3 hbA3;generalize hgB:W3.heap.size=gB at *
 clear hgB;have p0:=aa (o:=0) hb5 rfl;have p1:=aa (o:=1) hb5 rfl;have p2:=aa (o:=2) hb5 rfl;have p3:=aa (o:=3) hb5 rfl;have p4:=aa (o:=4) hb5 rfl;have p5:=aa (o:=5) hb5 rfl;have p6:=aa (o:=6) hb5 rfl;have p7:=aa (o:=7) hb5 rfl;have p8:=aa (o:=8) hb5 rfl;have p9:=aa (o:=9) hb5 rfl;have p10:=aa (o:=10) hb5 rfl;have p11:=aa (o:=11) hb5 rfl;have p12:=aa (o:=12) hb5 rfl;have hlt4:Bo<W4.heap.size:=by omega
 have hltA:gA<W4.heap.size:=by omega
 have hltT:gT<W4.heap.size:=by omega
 go_upto_region 6 with (refine wpList_copy_nothing rfl _ _ 54 54 rfl 4 Tryz.underlying54 sizeBool _ _ _ _ _ _ rfl rfl (Nat.zero_min _) ?_)
 go_upto_region 8 with fail
 clear p0 p1 p2 p3 p4 p5 p6 p7 p8 p9 p10 p11 p12;generalize hW5:W4.alloc _=W5;have hf5:Fr W4 W5 (fun _=>False):=by rw [<- hW5];exact (Fr.refl _ _).alloc _
 have hbC:W5.heap[W4.heap.size]?=some (.cells #[.int .i64 c.kind,.slice (some ⟨gA,0,none⟩) c.at_.length (c.at_.length+1),.slice (some ⟨gT,0,none⟩) c.to.length (c.to.length+1),.int .i64 c.ty,.int .i64 c.bits,.int .i64 c.count,.int .i64 c.rights,.int .i64 c.badge,.int .i64 c.value,.int .i64 c.offset] 41 (0,0)):=by rw [<- hW5];exact heap_alloc_new _ _
 have hs5:=(Array.getElem?_eq_some_iff.1 hbC).1;have hF5:Fr w W5 (fun _=>False):=hF4.step hf5 (fun _=>False.elim);have hb5:=hf5.same hb5 id;have hbA:=hf5.same hbA id;have hbT:=hf5.same hbT id;have hbB:=hf5.same hbB id;clear hW5 hf5 hF4;generalize hgC:W4.heap.size=gC at *
 clear hgC;have p1:=aa (o:=1) hb5 rfl;have hsd5:=h.sd.frame hF5 (fun _ _=>id);have hlt5:Bo<W5.heap.size:=by omega
 have hbase:=base_any D.R D.VR D.ky D.sb th W5 hsd5.ref (aa (o:=1) hsd5.side rfl) (by have:=h.sd.inv.lenT;omega) hth0 hth1;go_upto_region 9 with (go_at_call 27;refine hbase.mono ?_;rintro e W6 ⟨rfl,q6,rfl⟩)
 clear hbase p1 hsd5;have hF6:Fr w (W5.drewN q6) (fun _=>False):=hF5.drewN q6;have hb5:(W5.drewN q6).heap[Bo]?=_:=hb5;have hbA:(W5.drewN q6).heap[gA]?=_:=hbA;have hbT:(W5.drewN q6).heap[gT]?=_:=hbT;have hbB:(W5.drewN q6).heap[gB]?=_:=hbB;have hbC:(W5.drewN q6).heap[gC]?=_:=hbC;have hs6:gC<(W5.drewN q6).heap.size:=hs5;clear hF5 hs5 hlt5;generalize W5.drewN q6=W6 at *
 generalize hbi:baseI D.R.T th=bi at *
 have hsd6:=h.sd.frame hF6 (fun _ _=>id);have hgl6:=Glob.fr hgl hF6;have hav6:IntsAt W6 (.slice (some ⟨gA,0,none⟩) c.at_.length (c.at_.length+1)) c.at_:=⟨_,_,rfl,fun _=>⟨gA,0,rfl,fun i hi=>by rw [Nat.zero_add];exact aa hbA (rowI_get c.at_ 78 i hi)⟩⟩
 have htv6:IntsAt W6 (.slice (some ⟨gT,0,none⟩) c.to.length (c.to.length+1)) c.to:=⟨_,_,rfl,fun _=>⟨gT,0,rfl,fun i hi=>by rw [Nat.zero_add];exact aa hbT (rowI_get c.to 78 i hi)⟩⟩
 have hdo:∀W,Fr W6 W (fun _=>False)->Calls Tryz.prog 11 #[.pointer (some ⟨D.kx,0,none⟩),.int .i64 bi,.agg #[.int .i64 c.kind,.slice (some ⟨gA,0,none⟩) c.at_.length (c.at_.length+1),.slice (some ⟨gT,0,none⟩) c.to.length (c.to.length+1),.int .i64 c.ty,.int .i64 c.bits,.int .i64 c.count,.int .i64 c.rights,.int .i64 c.badge,.int .i64 c.value,.int .i64 c.offset],.slice (some ⟨gB,0,none⟩) 0 1] W (fun e w'=>e=.returned (.tuple #[.int .i64 (doKX ⟨D.VK.ker,[]⟩ bi c []).1,.int .i64 (doKX ⟨D.VK.ker,[]⟩ bi c []).2.1])/\KGOut W D.kx D.VK (doKX ⟨D.VK.ker,[]⟩ bi c []).2.2 w'):=by
  intro W hW;have hkd:KDG W D.kx ⟨D.VK.ker,[]⟩ D.VK:=⟨hsd6.kd.frame hW (fun _ _=>id),Glob.fr hgl6 hW,h.sd.ge⟩;exact kdo_x ⟨D.VK.ker,[]⟩ D.VK D.kx c _ _ (some ⟨gB,0,none⟩) 1 bi W ⟨hkd,h.sd.good,hav6.fr hW (fun _ _=>id),htv6.fr hW (fun _ _=>id),by omega,by omega,fun _ _ _ e=>by cases e;omega,fun _ _ _ e=>by cases e;omega,fun _ k hk e=>by cases hk;have:gA<w.heap.size:=h.sd.kd.fdLt e;omega,fun _ k hk e=>by cases hk;have:gT<w.heap.size:=h.sd.kd.fdLt e;omega⟩ (fun i hi=>by rw [<- h.sd.ag.ws i hi];exact h.sd.wb i)
 have hagree0:=do_agreeX h.sd.ag bi c [];have hag4:Hid ((doRX ⟨D.R,[],D.ws,D.q⟩ bi c []).2.2.D=[]):=hagree0.2.2.2 rfl rfl;have hagree:=And.intro hagree0.1 (And.intro hagree0.2.1 hagree0.2.2.1);have Hwb:Aside (∀i,0<=(doRX ⟨D.R,[],D.ws,D.q⟩ bi c []).2.2.ws i/\(doRX ⟨D.R,[],D.ws,D.q⟩ bi c []).2.2.ws i<=4294967295):=doRX_ws _ bi c [] h.sd.wb;clear hagree0;generalize (doKX ⟨D.VK.ker,[]⟩ bi c []).1=vx at *
 generalize (doKX ⟨D.VK.ker,[]⟩ bi c []).2.1=ex at *
 generalize (doKX ⟨D.VK.ker,[]⟩ bi c []).2.2=K' at *
 have s0:=aa (o:=0) hsd6.side rfl;have q0:=aa (o:=0) hbC rfl;have q1:=aa (o:=1) hbC rfl;have q2:=aa (o:=2) hbC rfl;have q3:=aa (o:=3) hbC rfl;have q4:=aa (o:=4) hbC rfl;have q5:=aa (o:=5) hbC rfl;have q6:=aa (o:=6) hbC rfl;have q7:=aa (o:=7) hbC rfl;have q8:=aa (o:=8) hbC rfl;have q9:=aa (o:=9) hbC rfl;have p12:=aa (o:=12) hb5 rfl;have nC:¬D.VK.fd D.kx gC:=fun e=>by have:=h.sd.kd.fdLt e;omega
 have nO:¬D.VK.fd D.kx Bo:=fun e=>by have:=h.sd.kd.fdLt e;omega
 go_region_held3 (fun w'=>w'.cell? ⟨D.sb,0,none⟩=some (.pointer (some ⟨D.kx,0,none⟩))/\w'.cell? ⟨gC,0,none⟩=some (.int .i64 c.kind)/\w'.cell? ⟨gC,1,none⟩=some (.slice (some ⟨gA,0,none⟩) c.at_.length (c.at_.length+1))/\w'.cell? ⟨gC,2,none⟩=some (.slice (some ⟨gT,0,none⟩) c.to.length (c.to.length+1))/\w'.cell? ⟨gC,3,none⟩=some (.int .i64 c.ty)/\w'.cell? ⟨gC,4,none⟩=some (.int .i64 c.bits)/\w'.cell? ⟨gC,5,none⟩=some (.int .i64 c.count)/\w'.cell? ⟨gC,6,none⟩=some (.int .i64 c.rights)/\w'.cell? ⟨gC,7,none⟩=some (.int .i64 c.badge)/\w'.cell? ⟨gC,8,none⟩=some (.int .i64 c.value)/\w'.cell? ⟨gC,9,none⟩=some (.int .i64 c.offset)/\w'.cell? ⟨Bo,12,none⟩=some (.slice none 0 0)) (first | go_keep | (simp [go_sem,r0,m0,m1,m2,m3,m4,m5,m6,m7,m8,m9,m12];done))
  (first
  |(go_at_call 11;refine (hdo _ (Fr.refl _ _).drew).mono ?_;rintro e W7 ⟨rfl,hK7⟩
    have mC:=(KGOut.frOf hK7).same (show W6.drew.heap[gC]?=_ from hbC) nC;have mO:=(KGOut.frOf hK7).same (show W6.drew.heap[Bo]?=_ from hb5) nO;have mS:=(KGOut.frOf hK7).same (show W6.drew.heap[D.sb]?=_ from hsd6.side) h.sd.a1;have r0:=aa (o:=0) mS rfl;have m0:=aa (o:=0) mC rfl;have m1:=aa (o:=1) mC rfl;have m2:=aa (o:=2) mC rfl;have m3:=aa (o:=3) mC rfl;have m4:=aa (o:=4) mC rfl;have m5:=aa (o:=5) mC rfl;have m6:=aa (o:=6) mC rfl;have m7:=aa (o:=7) mC rfl;have m8:=aa (o:=8) mC rfl;have m9:=aa (o:=9) mC rfl;have m12:=aa (o:=12) mO rfl))
 clear r0 m0 m1 m2 m3 m4 m5 m6 m7 m8 m9 m12 q0 q1 q2 q3 q4 q5 q6 q7 q8 q9 p12 s0 hdo hav6 htv6 hgl6;obtain ⟨VK',hk7,hfr7,hfp7⟩:=hK7;have hf7:Fr W6 W7 (D.VK.fd D.kx):=hfr7.drewl;have hfp7:∀k,VK'.fd D.kx k->D.VK.fd D.kx k\/W6.heap.size<=k:=hfp7;have nA:¬D.VK.fd D.kx gA:=fun e=>by have:=h.sd.kd.fdLt e;omega
 have nT:¬D.VK.fd D.kx gT:=fun e=>by have:=h.sd.kd.fdLt e;omega
 have nB:¬D.VK.fd D.kx gB:=fun e=>by have:=h.sd.kd.fdLt e;omega
 have hbA:=hf7.same hbA nA;have hbT:=hf7.same hbT nT;have hbB:=hf7.same hbB nB;have hF7:Fr w W7 (D.VK.fd D.kx):=(hF6.mono (fun _=>False.elim)).step hf7 (fun _ hk=>.inl hk);have href7:=h.sd.rd.frame hF7 (fun k hk e=>h.sd.a3 k e hk);have hav7:IntsAt W7 (.slice A c.at_.length capA) c.at_:=(show IntsAt w (.slice A c.at_.length capA) c.at_ from ⟨A,capA,rfl,hA⟩).fr' hF7 (fun h0 k hk e=>(hda h0 k hk).2.2 (.inr (.inl e)))
 have htv7:IntsAt W7 (.slice B c.to.length capB) c.to:=(show IntsAt w (.slice B c.to.length capB) c.to from ⟨B,capB,rfl,hB⟩).fr' hF7 (fun h0 k hk e=>(hdt h0 k hk).2.2 (.inr (.inl e)))
 have hs7:=hf7.size;clear hfr7 hb5 hbC hsd6;have hdoR:∀W,Fr W7 W (fun _=>False)->Calls Tryz.prog 48 #[.pointer (some ⟨D.ky,0,none⟩),.int .i64 bi,.agg #[.int .i64 c.kind,.slice A c.at_.length capA,.slice B c.to.length capB,.int .i64 c.ty,.int .i64 c.bits,.int .i64 c.count,.int .i64 c.rights,.int .i64 c.badge,.int .i64 c.value,.int .i64 c.offset],.slice none 0 0] W (DoOutX W D.ky D.VR (doRX ⟨D.R,[],D.ws,D.q⟩ bi c [])):=by
  intro W hW;exact rdo_x ⟨D.R,[],D.ws,D.q⟩ D.VR D.ky bi c _ _ W (href7.frame hW (fun _ _=>id)) ⟨_,h.sd.ag⟩ (by omega) (by omega) (hav7.fr hW (fun _ _=>id)) (htv7.fr hW (fun _ _=>id)) (fun h0 k hk e=>(hda h0 k hk).2.2 (.inr (.inr e))) (fun h0 k hk e=>(hdt h0 k hk).2.2 (.inr (.inr e)))
 unfold DoOutX at hdoR;obtain ⟨hag0,hag1,hag2⟩:=hagree;generalize (doRX ⟨D.R,[],D.ws,D.q⟩ bi c []).1=vy at *
 generalize (doRX ⟨D.R,[],D.ws,D.q⟩ bi c []).2.1=ey at *
 generalize (doRX ⟨D.R,[],D.ws,D.q⟩ bi c []).2.2=R2 at *
 obtain ⟨R',DR,ws',q'⟩:=R2;obtain ⟨K2,DK⟩:=K';have hag5:DR=[]:=hag4.out;clear hag4;subst hag5;have hDK:DK=[]:=hag2.d;subst hDK;have hk7e:VK'.ker=K2:=hk7.kd.eq;subst hk7e;subst hag1;subst hag0;have s1:=aa (o:=1) mS rfl;have p2:=aa (o:=2) mO rfl;have p3:=aa (o:=3) mO rfl;have p4:=aa (o:=4) mO rfl;have p5:=aa (o:=5) mO rfl;have p6:=aa (o:=6) mO rfl;have p7:=aa (o:=7) mO rfl;have p8:=aa (o:=8) mO rfl;have p9:=aa (o:=9) mO rfl;have p10:=aa (o:=10) mO rfl;have p11:=aa (o:=11) mO rfl;have p12:=aa (o:=12) mO rfl;have nS:¬D.VR.fq D.ky D.sb:=h.sd.a2;have nO:¬D.VR.fq D.ky Bo:=fun e=>by have:=h.sd.rd.fqLt e;omega
 have nA:¬D.VR.fq D.ky gA:=fun e=>by have:=h.sd.rd.fqLt e;omega
 have nT:¬D.VR.fq D.ky gT:=fun e=>by have:=h.sd.rd.fqLt e;omega
 have nB:¬D.VR.fq D.ky gB:=fun e=>by have:=h.sd.rd.fqLt e;omega
 clear mC nC;go_wp2_with fail
 go_region_held3 (fun w'=>w'.cell? ⟨D.sb,1,none⟩=some (.pointer (some ⟨D.ky,0,none⟩))/\w'.cell? ⟨Bo,2,none⟩=some (.int .i64 c.kind)/\w'.cell? ⟨Bo,3,none⟩=some (.slice A c.at_.length capA)/\w'.cell? ⟨Bo,4,none⟩=some (.slice B c.to.length capB)/\w'.cell? ⟨Bo,5,none⟩=some (.int .i64 c.ty)/\w'.cell? ⟨Bo,6,none⟩=some (.int .i64 c.bits)/\w'.cell? ⟨Bo,7,none⟩=some (.int .i64 c.count)/\w'.cell? ⟨Bo,8,none⟩=some (.int .i64 c.rights)/\w'.cell? ⟨Bo,9,none⟩=some (.int .i64 c.badge)/\w'.cell? ⟨Bo,10,none⟩=some (.int .i64 c.value)/\w'.cell? ⟨Bo,11,none⟩=some (.int .i64 c.offset)/\w'.cell? ⟨Bo,12,none⟩=some (.slice none 0 0)) (first | go_keep | (simp [go_sem,r1,m2,m3,m4,m5,m6,m7,m8,m9,m10,m11,m12];done))
  (first
  |(go_at_call 48;refine (hdoR _ (Fr.refl _ _).drew).mono ?_;rintro e W8 ⟨rfl,VR',hr8,hfr8,hfp8⟩
    have mO8:=hfr8.same (show W7.drew.heap[Bo]?=_ from mO) nO;have mS8:=hfr8.same (show W7.drew.heap[D.sb]?=_ from mS) nS;have r1:=aa (o:=1) mS8 rfl;have m2:=aa (o:=2) mO8 rfl;have m3:=aa (o:=3) mO8 rfl;have m4:=aa (o:=4) mO8 rfl;have m5:=aa (o:=5) mO8 rfl;have m6:=aa (o:=6) mO8 rfl;have m7:=aa (o:=7) mO8 rfl;have m8:=aa (o:=8) mO8 rfl;have m9:=aa (o:=9) mO8 rfl;have m10:=aa (o:=10) mO8 rfl;have m11:=aa (o:=11) mO8 rfl;have m12:=aa (o:=12) mO8 rfl))
 have hf8:Fr W7 W8 (D.VR.fq D.ky):=hfr8.drewl;obtain ⟨hsd8,hF8,hfpD⟩:=h.sd.after hF6 hf7 hk7.kd hk7.ge hfp7 hf8 hr8 hfp8 hag2 Hwb.out;have hbA:=hf8.same hbA nA;have hbT:=hf8.same hbT nT;have hbB:=hf8.same hbB nB;have hav8:IntsAt W8 (.slice A c.at_.length capA) c.at_:=hav7.fr' hf8 (fun h0 k hk e=>(hda h0 k hk).2.2 (.inr (.inr e)))
 have htv8:IntsAt W8 (.slice B c.to.length capB) c.to:=htv7.fr' hf8 (fun h0 k hk e=>(hdt h0 k hk).2.2 (.inr (.inr e)))
 have hb5:=mO8;have hsz8:gC<W8.heap.size:=by have:=hf8.size;omega
 have hs68:W6.heap.size<=W8.heap.size:=by have:=hf8.size;omega
 generalize hD':(⟨D.sb,D.kx,D.ky,VK',R',ws',q',VR'⟩:SideD)=D' at *
 have hDsb:D'.sb=D.sb:=by rw [<- hD']
 clear r1 m2 m3 m4 m5 m6 m7 m8 m9 m10 m11 m12 p2 p3 p4 p5 p6 p7 p8 p9 p10 p11 p12 s1 hdoR hfr8 hf8 hk7 hf7 hF6 hF7 href7 hav7 htv7 mO8 mS8 mS mO hr8 hfp8 hfp7 hag2 nA nT nB nO nS hD';have hL8:LawAt W8 wb U:=h.law.frame hF8 (fun k hk e=>(h.sep k e).1 hk)
 have hG8:GoodL W8 U:=h.good.frame hF8 (fun k hk e=>(h.sep k e).2 hk)
 have fA:¬U.fp wb gA:=fun e=>by have:=h.law.lt e;omega
 have fT:¬U.fp wb gT:=fun e=>by have:=h.law.lt e;omega
 have hret:=returned_any wb gA U c.at_ (.slice A c.at_.length capA) W8 hL8 hbA fA hav8 (by omega) (by have:=hn 3 (by omega);omega);have p3:=aa (o:=3) hb5 rfl;go_upto_region 12 with (go_at_call 49;refine hret.mono ?_;rintro e W9 ⟨rfl,nv9,hO9,hfl9⟩)
 clear hret p3;have hf9:=hO9.fr;have hs9:=hf9.size;have gTA:¬(U.fp wb gT\/gT=gA):=fun e=>e.elim fT (by omega)
 have gBA:¬(U.fp wb gB\/gB=gA):=fun e=>e.elim (fun e=>by have:=h.law.lt e;omega) (by omega)
 have gOA:¬(U.fp wb Bo\/Bo=gA):=fun e=>e.elim (fun e=>by have:=h.law.lt e;omega) (by omega)
 have hbT:=hf9.same hbT gTA;have hbB:=hf9.same hbB gBA;have hb5:=hf9.same hb5 gOA;have htv9:=htv8.fr' hf9 (fun h0 k hk e=>e.elim (fun e=>(hdt h0 k hk).2.1 e) (fun e=>by have:=(hdt h0 k hk).1;omega))
 have fT1:¬(U.add 3 nv9 (.slice (some ⟨gA,0,none⟩) (c.at_.length+1) (c.at_.length+1))).fp wb gT:=fun e=>by
  rcases hO9.fp _ e with e | e
  ·exact fT e
  ·omega
 have hL9:=hO9.at_;have hl3:((U.add 3 nv9 (.slice (some ⟨gA,0,none⟩) (c.at_.length+1) (c.at_.length+1))).rl 3).length<=80000001:=by
  have:=hn 3 (by omega);simp [LawV.add];omega
 have hret:=returned_any wb gT _ c.to (.slice B c.to.length capB) W9 hL9 hbT fT1 htv9 (by omega) (by omega);have p4:=aa (o:=4) hb5 rfl;go_upto_region 13 with (go_at_call 49;refine hret.mono ?_;rintro e W10 ⟨rfl,nv10,hO10,hfl10⟩)
 clear hret p4;have hf10:=hO10.fr;have hs10:=hf10.size;have fU1:∀k,k<W8.heap.size->¬U.fp wb k->¬(U.add 3 nv9 (.slice (some ⟨gA,0,none⟩) (c.at_.length+1) (c.at_.length+1))).fp wb k:=fun k hk hu e=>by
  rcases hO9.fp _ e with e | e
  ·exact hu e
  ·omega
 have fB:¬U.fp wb gB:=fun e=>gBA (.inl e)
 have hbB10:=hf10.same hbB (fun e=>e.elim (fU1 gB (by omega) fB) (by omega))
 have p12:=aa (o:=12) (hf10.same hb5 (fun e=>e.elim (fU1 Bo (by omega) (fun e=>gOA (.inl e))) (by omega))) rfl
 have b0:=aa (o:=0) hbB10 rfl;have zb:W10.frozen? ⟨gB,0,none⟩=false:=ae hbB10;go_wp2;refine wp_loop_rounds 2 ?_;rw [rounds_succ];go_wp2;go_quiet (fail)
 obtain ⟨U2,hU2⟩:∃U2,U2=(U.add 3 nv9 (.slice (some ⟨gA,0,none⟩) (c.at_.length+1) (c.at_.length+1))).add 3 nv10 (.slice (some ⟨gT,0,none⟩) (c.to.length+1) (c.to.length+1)):=⟨_,rfl⟩;rw [<- hU2] at hO10;have hfU2:∀k,U2.fp wb k->U.fp wb k\/W8.heap.size<=k:=fun k hk=>by
  rcases hO10.fp k hk with e | e
  ·exact hO9.fp k e
  ·exact .inr (by omega)
 have hcU2:∀k,U2.cb k->U.cb k\/k=gA\/k=gT\/W8.heap.size<=k:=fun k hk=>by
  rcases hO10.cb k hk with e | e | e
  ·rcases hO9.cb k e with e | e | e
   ·exact .inl e
   ·exact .inr (.inl e)
   ·exact .inr (.inr (.inr e))
  ·exact .inr (.inr (.inl e))
  ·exact .inr (.inr (.inr (by omega)))
 have hL11:LawAt (W10.drewN nq) wb U2:=hO10.at_.frame ((Fr.refl _ (fun _=>False)).drewN _) (fun _ _=>id);have hF11:Fr W8 (W10.drewN nq) (fun k=>U.fp wb k\/k=gA\/k=gT):=((hf9.mono (fun k e=>e.imp id .inl)).step hf10 (fun k e=>e.elim (fun e=>(hO9.fp k e).imp .inl id) (fun e=>.inl (.inr (.inr e))))).drewN _
 have hfl9':Filled (W10.drewN nq) [.int .i64 (-7)] (.slice (some ⟨gA,0,none⟩) (c.at_.length+1) (c.at_.length+1)):=hfl9.frame (hf10.drewN nq) (fun k hk e=>by cases hk;exact e.elim (fU1 gA (by omega) fA) (fun e=>by have:gA=gT:=e;omega))
 have hfl10':Filled (W10.drewN nq) [.int .i64 (-7)] (.slice (some ⟨gT,0,none⟩) (c.to.length+1) (c.to.length+1)):=hfl10;have hbB11:(W10.drewN nq).heap[gB]?=some (.cells #[.bool false] 4 (0,0)):=hbB10;have b0:=aa (o:=0) hbB11 rfl;have zb:(W10.drewN nq).frozen? ⟨gB,0,none⟩=false:=ae hbB11;have hs11:W8.heap.size<=(W10.drewN nq).heap.size:=hF11.size;have p12':(W10.drewN nq).cell? ⟨Bo,12,none⟩=some (.slice none 0 0):=p12;clear p12 hbB10 hfl9 hfl10 hO9 hO10 hf9 hf10 hs9 hs10 hbT hbB hb5 htv9 fT1 hL9 hl3 fU1;generalize W10.drewN nq=W11 at *
 go_upto_region 20 with fail
 generalize hW12:W11.setCell ⟨gB,0,none⟩ (.bool true)=W12;have hbB12:W12.heap[gB]?=some (.cells #[.bool true] 4 (0,0)):=by rw [<- hW12];exact aj W11 gB 0 (.bool true) hbB11
 have hF12:Fr W11 W12 (fun k=>k=gB):=by rw [<- hW12];exact Fr.set1 W11 gB 0 _
 clear hW12 b0 zb hbB11;have b0:=aa (o:=0) hbB12 rfl;have fB2:¬U2.fp wb gB:=fun e=>(hfU2 gB e).elim fB (by omega)
 have hL12:LawAt W12 wb U2:=hL11.frame hF12 (fun k hk e=>fB2 (e▸hk))
 have hs12:=hF12.size;go_wp2_with (at_builtin;go_must (refine wpList_append_lies _ rfl _ _ 54 rfl 0 4 iB _ 1 1 Tryz.underlying54 hiB hB0 hB1 hB2 rfl (by decide) (.slice none 0 0) 0 [] rfl (World.ownsRow_nil _ _ _ _) ⟨_,0,none⟩ 1 1 [.bool true] rfl rfl (bt _ _ _) (by simp [Value.oneCell']) (by decide) (by unfold maxLen;omega) (by omega) (Nat.zero_le _) (W12.heap.size+1) (by simp) ?_))
 intro g20 cap20 Y20 hown20 hg20 hat20 hlt20;have hF20:Fr W12 Y20 (fun _=>False):=((Fr.refl W12 (fun _=>False)).alloc _).grown hg20 (fun r hr=>by cases hr);have hg20e:W12.heap.size<g20:=by rcases hat20 with e | e;cases e;omega
 have hL20:LawAt Y20 wb U2:=hL12.frame hF20 (fun _ _=>id);have hown20:Y20.ownsRow 0 4 1 (.slice (some ⟨g20,0,none⟩) 1 cap20) 1 [.bool true]:=hown20;have f20:¬U2.fp wb g20:=fun e=>by have:=hL12.lt e;omega
 clear hg20 hat20 hL12 hL11 b0;have hs20:=hF20.size;go_wp2;rw [rounds_succ];go_upto_region 21 with fail
 have hbB20:=hF20.same hbB12 id;have hF20w:Fr W8 Y20 (fun k=>U.fp wb k\/k=gA\/k=gT\/k=gB):=((hF11.mono (fun k e=>e.imp id (fun e=>e.imp id .inl))).step hF12 (fun k e=>.inl (.inr (.inr (.inr e))))).step hF20 (fun _=>False.elim)
 have fA20:=(hfl9'.frame hF12 (fun k hk e=>by cases hk;have:gA=gB:=e;omega)).frame hF20 (fun _ _=>id);have fT20:=(hfl10'.frame hF12 (fun k hk e=>by cases hk;have:gT=gB:=e;omega)).frame hF20 (fun _ _=>id);have hn4:(U2.rl 4).length<=80000000:=by rw [hU2];exact hn 4 (by omega)
 have hn5:(U2.rl 5).length<=80000000:=by rw [hU2];exact hn 5 (by omega)
 have cc:Y20.cell? ⟨wb,4,none⟩=some (U2.rv 4):=aa hL20.blk rfl;have oo:Y20.ownsRow 0 54 1 (U2.rv 4) (U2.rl 4).length (U2.rl 4):=hL20.row 4 (by omega);have sw:wb<Y20.heap.size:=World.block_lt_of_cell? _ _ cc;have HU:Hid (U2=(U.add 3 nv9 (.slice (some ⟨gA,0,none⟩) (c.at_.length+1) (c.at_.length+1))).add 3 nv10 (.slice (some ⟨gT,0,none⟩) (c.to.length+1) (c.to.length+1))):=hU2;clear hU2 hF11 hF12 hfl9' hfl10' hbB12 hL8 hbA hav8 htv8 gTA gBA gOA;go_upto_region 22 with (at_builtin;go_must (refine wpList_append_lies _ rfl _ _ 28 rfl 0 54 iL _ 1 24 Tryz.underlying28 hiL hL0 hL1 hL2 rfl (by decide) _ _ _ rfl (World.ownsRow.alloc oo _) ⟨_,0,none⟩ 1 1 [.slice (some ⟨gB,0,none⟩) 1 1] rfl rfl (bt _ _ _) (by simp [Value.oneCell']) (by decide) (by unfold maxLen;omega) (by omega) (Nat.zero_le _) (Y20.heap.size+1) (by simp) ?_))
 intro g21 cap21 Y21 hown21 hg21 hat21 hlt21;obtain ⟨d21,z21,hL21,hf21,hfp21,hcb21⟩:=hL20.add (j:=4) (by omega) hg21 hown21 hat21 (fun _ k hk=>by cases hk;exact ⟨fB2,by show gB<_;omega⟩);clear hown21 hg21 hat21 hlt21 cc oo;go_upto_region 22 with fail
 generalize hgen:Y21.setCell ⟨wb,4,none⟩ (.slice (some ⟨g21,0,none⟩) ((U2.rl 4).length+1) cap21)=W21 at *
 clear hgen d21 z21;generalize hnv21:Value.slice (some ⟨g21,0,none⟩) ((U2.rl 4).length+1) cap21=nv21 at *
 have hn5':((U2.add 4 nv21 (.slice (some ⟨gB,0,none⟩) 1 1)).rl 5).length<=80000000:=hn5;have f20':¬(U2.add 4 nv21 (.slice (some ⟨gB,0,none⟩) 1 1)).fp wb g20:=fun e=>(hfp21 g20 e).elim f20 (by omega)
 have hs21:=hf21.size;have cc:W21.cell? ⟨wb,5,none⟩=some ((U2.add 4 nv21 (.slice (some ⟨gB,0,none⟩) 1 1)).rv 5):=aa hL21.blk rfl;have oo:W21.ownsRow 0 54 1 ((U2.add 4 nv21 (.slice (some ⟨gB,0,none⟩) 1 1)).rv 5) ((U2.add 4 nv21 (.slice (some ⟨gB,0,none⟩) 1 1)).rl 5).length ((U2.add 4 nv21 (.slice (some ⟨gB,0,none⟩) 1 1)).rl 5):=hL21.row 5 (by omega);have sw1:wb<W21.heap.size:=World.block_lt_of_cell? _ _ cc;go_wp2_with (at_builtin;go_must (refine wpList_append_lies _ rfl _ _ 28 rfl 0 54 iL _ 1 24 Tryz.underlying28 hiL hL0 hL1 hL2 rfl (by decide) _ _ _ rfl (World.ownsRow.alloc oo _) ⟨_,0,none⟩ 1 1 [.slice (some ⟨g20,0,none⟩) 1 cap20] rfl rfl (bt _ _ _) (by simp [Value.oneCell']) (by decide) (by unfold maxLen;omega) (by omega) (Nat.zero_le _) (W21.heap.size+1) (by simp) ?_))
 intro g22 cap22 Y22 hown22 hg22 hat22 hlt22;obtain ⟨d22,z22,hL22,hf22,hfp22,hcb22⟩:=hL21.add (j:=5) (by omega) hg22 hown22 hat22 (fun _ k hk=>by cases hk;exact ⟨f20',by show g20<_;omega⟩);clear hown22 hg22 hat22 hlt22 cc oo;go_wp2;go_ret;generalize hgen:Y22.setCell ⟨wb,5,none⟩ (.slice (some ⟨g22,0,none⟩) (((U2.add 4 nv21 (.slice (some ⟨gB,0,none⟩) 1 1)).rl 5).length+1) cap22)=W22 at *
 have hF22:Fr W8 W22 (fun k=>U.fp wb k\/k=gA\/k=gT\/k=gB):=(hF20w.step hf21 (fun k e=>(hfU2 k e).imp .inl id)).step hf22 (fun k e=>by
  rcases hfp21 k e with e | e
  ·exact (hfU2 k e).imp .inl id
  ·exact .inr (by have:=hF20w.size;omega))
 have hF2022:Fr Y20 W22 (fun k=>U2.fp wb k):=hf21.step hf22 (fun k e=>hfp21 k e);have hb22:=hF2022.same hbB20 fB2;have ho22:=hF2022.owns hown20 (fun k hk e=>by cases hk;exact f20 e);have hc22:W22.cell? ⟨g20,0,none⟩=some (.bool true):=by
  have:=ho22.cells (g:=g20) rfl 0 (.bool true) rfl;rw [add_eq] at this;exact this
 refine ⟨rfl,_,D',does_done (W6:=W6) (gA:=gA) (gT:=gT) (gB:=gB) (vA:=.slice (some ⟨gA,0,none⟩) (c.at_.length+1) (c.at_.length+1)) (vT:=.slice (some ⟨gT,0,none⟩) (c.to.length+1) (c.to.length+1)) (vB:=.slice (some ⟨gB,0,none⟩) 1 1) (vW:=.slice (some ⟨g20,0,none⟩) 1 cap20) h hs68 ⟨by omega,by omega,by omega,by omega,by omega,by omega⟩ hF8 hsd8 hfpD hDsb hF22 hL22 ?_ ?_ ?_ ?_ ?_ ?_⟩
 ·rw [HU.out];funext j;simp only [LawV.add];by_cases e3:j=3
  ·subst e3;rfl
  ·by_cases e4:j=4
   ·subst e4;rfl
   ·by_cases e5:j=5
    ·subst e5;rfl
    ·simp [e3,e4,e5]
 ·intro k hk;rcases hfp22 k hk with e | e
  ·rcases hfp21 k e with e | e
   ·exact hfU2 k e
   ·exact .inr (by have:=hF20w.size;omega)
  ·exact .inr (by have:=hF20w.size;omega)
 ·intro k hk;rcases hcb22 k hk with e | ⟨_,e⟩
  ·rcases hcb21 k e with e | ⟨_,e⟩
   ·rcases hcU2 k e with e | e | e | e
    ·exact .inl e
    ·exact .inr (.inl e)
    ·exact .inr (.inr (.inl e))
    ·exact .inr (.inr (.inr (.inr e)))
   ·cases e;exact .inr (.inr (.inr (.inl rfl)))
  ·cases e;exact .inr (.inr (.inr (.inr (by show W8.heap.size<=g20;omega))))
 ·exact fA20.frame hF2022 (fun k hk e=>by cases hk;exact (hfU2 gA e).elim fA (by omega))
 ·exact fT20.frame hF2022 (fun k hk e=>by cases hk;exact (hfU2 gT e).elim fT (by omega))
 ·refine ⟨[true],by decide,⟨_,_,rfl,fun _=>⟨gB,rfl,fun i hi=>?_⟩⟩,⟨_,_,rfl,fun _=>⟨g20,rfl,fun i hi=>?_⟩⟩⟩
  ·have:i=0:=by simpa using hi
   subst this;exact aa hb22 rfl
  ·have:i=0:=by simpa using hi
   subst this;exact hc22
theorem GameOut.of_fr {w w1 w':World}{wb:Nat}{U U':LawV}{D D':SideD}(hf:Fr w w1 (fun _=>False))(h:GameOut w1 wb U D U' D' w'):GameOut w wb U D U' D' w':=by
 have:=hf.size;exact ⟨h.at_,(hf.mono (fun _=>False.elim)).step h.fr (fun k hk=>.inl hk),fun k hk=>(h.fpU k hk).imp id (fun e=>by omega),fun k hk=>(h.cbU k hk).imp id (fun e=>by omega),fun k hk=>(h.fpD k hk).imp id (fun e=>by omega),h.sb,h.r0,h.len⟩
theorem SideOk.thr {w:World}{D:SideD}(h:SideOk w D)(b:Int):D.VK.ker.thr b=(D.R.T.find? (af b)).map Thr.thd:=h.inv.rel.thr b
theorem SideOk.wss {w:World}{D:SideD}(h:SideOk w D):∀i,i<1024->D.VK.ws i=D.VR.ws i/\0<=D.VK.ws i/\D.VK.ws i<=4294967295:=by
 intro i hi;have h1:D.ws i=D.VK.ws i:=h.ag.ws i hi;have h2:D.VR.ws=D.ws:=h.rd.ws;rw [h2,<- h1];exact ⟨rfl,h.wb i⟩
theorem SideOk.thread {w:World}{D:SideD}(h:SideOk w D)(b:Int):Calls Tryz.prog 26 #[.pointer (some ⟨D.sb,0,none⟩),.int .i64 b] w fun e w'=>e=.returned (.bool true)/\Fr w w' (fun _=>False):=
 sthread_any D.R D.VR D.VK D.kx D.ky D.sb b w h.side h.ker h.ref (by have:=h.inv.lenT;omega) (h.thr b)
theorem SideOk.word {w:World}{D:SideD}(h:SideOk w D)(n:Int):Calls Tryz.prog 30 #[.pointer (some ⟨D.sb,0,none⟩),.int .i64 n] w fun e w'=>e=.returned (.bool true)/\Fr w w' (fun _=>False):=
 sword_any D.R D.VR D.VK D.kx D.ky D.sb n w h.side h.ker h.ref h.wss
theorem SideOk.base {w:World}{D:SideD}(h:SideOk w D)(n:Int)(h0:-9223372036854775808<=n)(h1:n<=9223372036854775807):Calls Tryz.prog 27 #[.pointer (some ⟨D.sb,0,none⟩),.int .i64 n] w fun e w'=>e=.returned (.int .i64 (baseI D.R.T n))/\∃q,w'=w.drewN q:=
 base_any D.R D.VR D.ky D.sb n w h.ref (aa (o:=1) h.side rfl) (by have:=h.inv.lenT;omega) h0 h1
theorem step_none (wb:Nat)(U:LawV)(D:SideD)(w:World)(h:GameAt w wb U D)(hgl:Glob w)(ask th n:Int)(which:Bool)(c:Cl)(av tv:Value)(hav:IntsAt w av c.at_)(htv:IntsAt w tv c.to)(hal:c.at_.length<=1048576)(htl:c.to.length<=1048576)
 (hda:0<c.at_.length->∀k,av.ownBlock=some k->k<w.heap.size/\¬U.fp wb k/\¬D.fp k) (hdt:0<c.to.length->∀k,tv.ownBlock=some k->k<w.heap.size/\¬U.fp wb k/\¬D.fp k) (hth0:-9223372036854775808<=th) (hth1:th<=9223372036854775807)
 (hn0:-9223372036854775808<=n) (hn1:n<=9223372036854775807) (hn:∀j,j<6->(U.rl j).length<=80000000) :
 Calls Tryz.prog 15 #[.pointer (some ⟨wb,0,none⟩),.pointer (some ⟨D.sb,0,none⟩),opVal ask th c av tv (.slice none 0 0) n which] w fun e w'=>e=.returned (.bool true)/\∃U' D',GameOut w wb U D U' D' w':=by
 obtain ⟨W1,hW1⟩:∃W1,w.alloc (.cells #[.int .i64 ask,.int .i64 th,.int .i64 c.kind,av,tv,.int .i64 c.ty,.int .i64 c.bits,.int .i64 c.count,.int .i64 c.rights,.int .i64 c.badge,.int .i64 c.value,.int .i64 c.offset,.slice none 0 0,.int .i64 n,.bool which] 56)=W1:=⟨_,rfl⟩;have hf1:Fr w W1 (fun _=>False):=by rw [<- hW1];exact (Fr.refl _ _).alloc _
 have HW:Hid (_=W1):=hW1;clear hW1;have h1:=h.frame hf1;have hgl1:=Glob.fr hgl hf1;have hs1:=hf1.size;obtain ⟨A,capA,rfl,hA⟩:=hav;obtain ⟨B,capB,rfl,hB⟩:=htv;have hav:IntsAt w (.slice A c.at_.length capA) c.at_:=⟨A,capA,rfl,hA⟩;have htv:IntsAt w (.slice B c.to.length capB) c.to:=⟨B,capB,rfl,hB⟩;have hav1:=hav.fr hf1 (fun _ _=>id);have htv1:=htv.fr hf1 (fun _ _=>id);clear hA hB;by_cases e0:ask=0
 ·have hcall:=does_none wb U D W1 h1 hgl1 ask th n which c _ _ hav1 htv1 hal htl (fun h0 k hk=>⟨by have:=(hda h0 k hk).1;omega,(hda h0 k hk).2⟩) (fun h0 k hk=>⟨by have:=(hdt h0 k hk).1;omega,(hdt h0 k hk).2⟩) hth0 hth1 hn
  subst e0;unfold opVal at hcall ⊢;go_enter Tryz.func15,Tryz.ntmps15
  go_wp2_with (go_at_call 25;rw [HW.out];refine hcall.mono ?_;rintro e W2 ⟨rfl,U',D',hG⟩)
  go_ret;exact ⟨rfl,U',D',hG.of_fr hf1⟩
 ·have d0:(ask==0)=false:=by simpa using e0
  by_cases e1:ask=1
  ·subst e1;have hcb:=h1.sd.base n hn0 hn1;unfold opVal;go_enter Tryz.func15,Tryz.ntmps15
   go_wp2_with (first
    |(go_at_call 27;rw [HW.out];refine hcb.mono ?_;rintro e W2 ⟨rfl,q,rfl⟩)
    |(go_at_call 26;refine ((h1.sd.frame ((Fr.refl _ (fun _=>False)).drewN q) (fun _ _=>id)).thread _).mono ?_;rintro e W3 ⟨rfl,hf3⟩))
   go_ret;exact ⟨rfl,U,D,GameOut.same h ((hf1.drewN q).step hf3 (fun _=>False.elim))⟩
  ·have d1:(ask==1)=false:=by simpa using e1
   by_cases e2:ask=2
   ·subst e2;have hcc:=scaps_any wb U D W1 h1 hgl1 hn;unfold opVal;go_enter Tryz.func15,Tryz.ntmps15
    go_wp2_with (go_at_call 28;rw [HW.out];refine hcc.mono ?_;rintro e W2 ⟨rfl,U',hG⟩)
    go_ret;exact ⟨rfl,U',D,hG.of_fr hf1⟩
   ·have d2:(ask==2)=false:=by simpa using e2
    by_cases e3:ask=3
    ·subst e3;have hcc:=sdoomed_any wb U D W1 h1 hn;unfold opVal;go_enter Tryz.func15,Tryz.ntmps15
     go_wp2_with (go_at_call 29;rw [HW.out];refine hcc.mono ?_;rintro e W2 ⟨rfl,U',hG⟩)
     go_ret;exact ⟨rfl,U',D,hG.of_fr hf1⟩
    ·have d3:(ask==3)=false:=by simpa using e3
     by_cases e4:ask=4
     ·subst e4;have hcc:=h1.sd.word n;unfold opVal;go_enter Tryz.func15,Tryz.ntmps15
      go_wp2_with (go_at_call 30;rw [HW.out];refine hcc.mono ?_;rintro e W2 ⟨rfl,hf2⟩)
      go_ret;exact ⟨rfl,U,D,GameOut.same h (hf1.step hf2 (fun _=>False.elim))⟩
     ·have d4:(ask==4)=false:=by simpa using e4
      unfold opVal;go_enter Tryz.func15,Tryz.ntmps15
      go_wp2;go_ret;exact ⟨rfl,U,D,GameOut.same h (by rw [HW.out];exact hf1)⟩
theorem GameOut.trans {w w1 w2:World}{wb:Nat}{U U1 U2:LawV}{D D1 D2:SideD}(h:GameOut w wb U D U1 D1 w1)(h2:GameOut w1 wb U1 D1 U2 D2 w2):
 GameAt w2 wb U2 D2/\Fr w w2 (fun k=>U.fp wb k\/D.fp k)/\(∀k,U2.fp wb k->U.fp wb k\/w.heap.size<=k)/\(∀k,U2.cb k->U.cb k\/w.heap.size<=k)/\(∀k,D2.fp k->D.fp k\/w.heap.size<=k)/\D2.sb=D.sb/\U2.rl 0=U.rl 0/\(∀j,j<6->(U2.rl j).length<=(U.rl j).length+8):=by
 have hs:=h.fr.size;refine ⟨h2.at_,h.fr.step h2.fr (fun k hk=>?_),fun k hk=>?_,fun k hk=>?_,fun k hk=>?_,h2.sb.trans h.sb,h2.r0.trans h.r0,fun j hj=>?_⟩
 ·rcases hk with e | e
  ·exact (h.fpU k e).imp .inl id
  ·exact (h.fpD k e).imp .inr id
 ·rcases h2.fpU k hk with e | e
  ·exact h.fpU k e
  ·exact .inr (by omega)
 ·rcases h2.cbU k hk with e | e
  ·exact h.cbU k e
  ·exact .inr (by omega)
 ·rcases h2.fpD k hk with e | e
  ·exact h.fpD k e
  ·exact .inr (by omega)
 ·have:=h.len j hj;have:=h2.len j hj;omega
theorem ended_any (wb:Nat)(U:LawV)(D:SideD)(w:World)(h:GameAt w wb U D)(hgl:Glob w)(hn:∀j,j<6->(U.rl j).length<=79999000):
 Calls Tryz.prog 17 #[.pointer (some ⟨wb,0,none⟩),.pointer (some ⟨D.sb,0,none⟩)] w fun e w'=>e=.returned (.bool true)/\∃U' D',GameAt w' wb U' D'/\Fr w w' (fun k=>U.fp wb k\/D.fp k)/\(∀k,U'.fp wb k->U.fp wb k\/w.heap.size<=k)/\(∀k,U'.cb k->U.cb k\/w.heap.size<=k)/\(∀k,D'.fp k->D.fp k\/w.heap.size<=k)/\D'.sb=D.sb/\U'.rl 0=U.rl 0/\(∀j,j<6->(U'.rl j).length<=(U.rl j).length+8):=by
 have hca:=scaps_any wb U D w h hgl (fun j hj=>by have:=hn j hj;omega);go_enter Tryz.func17,Tryz.ntmps17
 go_upto_region 2 with (go_at_call 28;refine hca.mono ?_;rintro e W1 ⟨rfl,U1,hG1⟩)
 clear hca;have hdo:=sdoomed_any wb U1 D W1 hG1.at_ (fun j hj=>by have:=hn j hj;have:=hG1.len j hj;omega);go_upto_region 3 with (go_at_call 29;refine hdo.mono ?_;rintro e W2 ⟨rfl,U2,hG2⟩)
 clear hdo;have hT:=hG1.trans hG2;have hsd:=hG2.at_.sd;clear hG1 hG2;go_wp2;go_loopw [7] (fun i w'=>Fr W2 w' (fun _=>False)/\∃m:Nat,m<=1026/\i=.int .i64 ((m:Int)-1)) (fun i _=>(1026-(intOf i+1)).toNat)
 case atStart=>exact ⟨Fr.refl _ _,0,by omega,rfl⟩
 case round=>
  obtain ⟨hf,m,hm,rfl⟩:=hrel;by_cases hlt:m<1026
  ·have dle:decide ((m:Int)-1<=1024)=true:=by simp;omega
   go_wp2_with (first
    |(go_at_call 30;refine ((hsd.frame hf (fun _ _=>id)).word _).mono ?_;rintro e W3 ⟨rfl,hf3⟩)
    |(go_at_call 26;refine ((hsd.frame (hf.step hf3 (fun _=>False.elim)) (fun _ _=>id)).thread _).mono ?_;rintro e W4 ⟨rfl,hf4⟩))
   go_roundw;case rel=>exact ⟨(hf.step hf3 (fun _=>False.elim)).step hf4 (fun _=>False.elim),m+1,by omega,by go_num⟩
   case measure=>simp [intOf];omega
  ·have dle:decide ((m:Int)-1<=1024)=false:=by simp;omega
   go_wp2;go_ret;obtain ⟨t1,t2,t3,t4,t5,_,t7,t8⟩:=hT;exact ⟨rfl,U2,D,t1.frame hf,t2.step hf (fun _=>False.elim),t3,t4,t5,rfl,t7,t8⟩
end Go.Proofs.YtdpjgflemddekaaGreatDoor
namespace Go.Proofs.YtdpjgflemddekaaGreatDoor
open Go.RowKit Go.Shelf
def callF1:Cl:=⟨1,[0],[3],5,3,2,0,0,0,0⟩
def callF2:Cl:=⟨10,[3],[],0,0,0,0,0,9,7⟩
def callF3:Cl:=⟨9,[3],[],0,0,0,0,0,0,7⟩
def bootRef:Ref:=⟨bootList,[⟨0,6⟩],[⟨64,1,0,0,0,0⟩]⟩
def bootRS:RS:=⟨bootRef,[],fun _=>0,[]⟩
def bootKS:KS:=⟨bootK,[]⟩
def k1:Ker:=(orTwoS bootKS (retypeKB bootKS 0 callF1 [])).2.K
def r1:Ref:=(retypeB bootRS 0 callF1 0 ⟨0,0,1,0,10,7,0,80,0⟩ []).2.R
def k2:Ker:={k1 with ws:=putNs k1.ws 87 9}
theorem qag_nil {K:Ker}(h:∀b,K.qs b=none):QAg [] K:=
 ⟨fun b y e=>(by rw [h b] at e;cases e),fun _ hw=>(by cases hw),fun _ hw=>(by cases hw),List.nodup_nil⟩
theorem boot_ag:Ag bootRS bootKS:=⟨boot_inv,rfl,fun _ _=>rfl,qag_nil (fun _=>rfl)⟩
theorem k1_ag:Ag ⟨r1,[],fun _=>0,[]⟩ ⟨k1,[]⟩:=(boot_ag.retype rfl (p:=0) (by decide) 0 callF1 [] rfl).2.1
theorem k1_ans:doKB bootKS 64 callF1 []=(0,⟨k1,[]⟩):=by
 have hw:ao stepK doneK F0 bootKS []=(bootKS,[],true):=workG_done _ _ rfl;unfold doKB;rw [show bootKS.K.thr 64=some ⟨1,0,0,0,0⟩ from rfl];simp only;rw [if_neg (by decide),if_neg (by decide),if_pos (by decide),hw];rfl
theorem k1_thr:k1.thr 64=some ⟨1,0,0,0,0⟩:=by rfl
theorem k1_find:am k1 0 [3]=some ⟨0,3⟩:=by rfl
theorem k1_held:k1.held ⟨0,3⟩=some (.frame 80 3 7):=by rfl
theorem k2_find:am k2 0 [3]=some ⟨0,3⟩:=by rfl
theorem k2_ag:Ag ⟨r1,[],k2.ws,[]⟩ ⟨k2,[]⟩:=by
 have hC1:=k1_ag.core;exact ⟨⟨⟨hC1.rel.cap,hC1.rel.emp,hC1.rel.tree,hC1.rel.nodes,hC1.rel.thr⟩,hC1.geo,hC1.inN,hC1.dm,hC1.dn,hC1.nod,hC1.cap,hC1.hno,hC1.thd,hC1.hth,hC1.que,hC1.hen,hC1.nd,hC1.td,hC1.nb,hC1.tb,hC1.rt⟩,rfl,fun _ _=>rfl,k1_ag.q.same rfl (fun _ t e1 e2=>⟨t,e1,e2⟩)⟩
theorem k2_rel:Rel r1 k2:=k2_ag.core.rel
theorem k2_ws (k:Nat)(hk:k<1024):k2.ws k=if k=87 then 9 else 0:=by
 show (if k=87 then 9 else k1.ws k)=_;have:=k1_ag.ws k hk;rw [<- show (0:Int)=k1.ws k from this]
theorem r1_list:r1.L=[⟨0,0,1,0,10,7,0,96,0⟩,⟨0,1,2,0,6,7,0,0,1⟩,⟨0,2,4,64,4,7,0,0,1⟩,⟨0,3,5,80,3,7,0,0,1⟩,⟨0,4,5,88,3,7,0,0,1⟩]:=by rfl
theorem k1_wb (i:Nat)(hi:i<1024):0<=k1.ws i/\k1.ws i<=4294967295:=by
 rw [<- show (0:Int)=k1.ws i from k1_ag.ws i hi];decide
theorem k2_wb (i:Nat)(hi:i<1024):0<=k2.ws i/\k2.ws i<=4294967295:=by
 rw [k2_ws i hi];split<;>decide
theorem k1_ansX:doKX ⟨bootK,[]⟩ 64 callF1 []=(0,0,⟨k1,[]⟩):=by
 unfold doKX;rw [if_neg (by decide)];rw [show doKB ⟨bootK,[]⟩ 64 callF1 []=_ from k1_ans]
theorem k2_ans:doKX ⟨k1,[]⟩ 64 callF2 []=(0,0,⟨k2,[]⟩):=by
 unfold doKX newKS;rw [if_pos (by decide),k1_thr];simp only;rw [if_neg (by decide)];unfold bz storeK co;rw [show callF2.at_=[3] from rfl,k1_find];simp only [k1_held];rfl
theorem k3_ans:doKX ⟨k2,[]⟩ 64 callF3 []=(9,0,⟨k2,[]⟩):=by
 have h9:=k2_ws 87 (by decide);rw [if_pos rfl] at h9;unfold doKX newKS;rw [if_pos (by decide),show k2.thr 64=_ from k1_thr];simp only;rw [if_neg (by decide)];unfold bz loadK co;rw [show callF3.at_=[3] from rfl,k2_find];simp only [show k2.held ⟨0,3⟩=_ from k1_held];show (k2.ws 87,0,_)=_;rw [h9]
def FirstAt (w0 w:World)(kb:Nat)(K:Ker):Prop:=
 ∃V,KDG w kb ⟨K,[]⟩ V/\(∀k,V.fd kb k->w0.heap.size<=k)/\Fr w0 w (fun _=>False)
theorem FirstAt.next {w0 w w':World}{kb:Nat}{K:Ker}(h:FirstAt w0 w kb K)(hf:Fr w w' (fun _=>False)):FirstAt w0 w' kb K:=by
 obtain ⟨V,h1,h4,h5⟩:=h;exact ⟨V,h1.frame hf (fun _ _=>id) (fun _=>False.elim),h4,h5.step hf (fun _=>False.elim)⟩
theorem FirstAt.out {w0 w w':World}{kb:Nat}{V:KerV}{K:Ker}(h4:∀k,V.fd kb k->w0.heap.size<=k)(h5:Fr w0 w (fun _=>False))(h:KGOut w kb V ⟨K,[]⟩ w'):FirstAt w0 w' kb K:=by
 obtain ⟨V',a1,a4,a5⟩:=h;exact ⟨V',a1,fun k hk=>(a5 k hk).elim (h4 k) (fun h=>Nat.le_trans h5.size h),h5.step a4 (fun k hk=>.inr (h4 k hk))⟩
theorem FirstAt.base {w0 w:World}{kb:Nat}{K:Ker}(h:FirstAt w0 w kb K):Fr w0 w (fun _=>False):=by
 obtain ⟨V,h1,h4,h5⟩:=h;exact h5
theorem ints_one {w:World}{b:Nat}{x:Int}{t:TypeId}(h:w.heap[b]?=some (.cells #[.int .i64 x] t (0,0))):IntsAt w (.slice (some ⟨b,0,none⟩) 1 1) [x]:=
 ⟨_,_,rfl,fun _=>⟨b,0,rfl,fun i hi=>by have:i=0:=by simpa using hi
                                       subst this;exact aa (o:=0) h rfl⟩⟩
theorem ints_nil (w:World):IntsAt w (.slice none 0 0) []:=⟨none,0,rfl,fun h=>absurd h (by decide)⟩
theorem boot_first {w w':World}{kb:Nat}{V:KerV}(hgl:Glob w)(h2:KerAt w' kb V)(h3:V.ker=bootK)(h4:V.dv=.slice none 0 0)(h5:∀k,V.fp kb k->w.heap.size<=k)(h6:Fr w w' (fun _=>False)):FirstAt w w' kb bootK:=by
 have hfd:∀k,V.fd kb k->w.heap.size<=k:=by
  rintro k (e | e)
  ·exact h5 k e
  ·rw [h4] at e;cases e
 have:=hgl.lt;refine ⟨V,⟨⟨h2,h3,?_,fun k hk=>by rw [h4] at hk;cases hk⟩,Glob.fr hgl h6,fun k hk=>by have:=hfd k hk;omega⟩,hfd,h6⟩
 rw [h4];exact World.ownsRow_nil _ _ _ _
theorem first_boot (w:World)(hgl:Glob w):Calls Tryz.prog 10 #[] w fun e w'=>∃kb,e=.returned (.pointer (some ⟨kb,0,none⟩))/\FirstAt w w' kb bootK:=
 (boot_any w hgl.n0 hgl.n1).mono fun _ _ ⟨kb,_,h1,h2,h3,h4,h5,h6⟩=>⟨kb,h1,boot_first hgl h2 h3 h4 h5 h6⟩
theorem own_far {W1:World}{kb:Nat}{S:KS}{V:KerV}(h:KDG W1 kb S V){b:Nat}(hb:W1.heap.size<=b){n c:Nat}(k:Nat)(hk:(Value.slice (some ⟨b,0,none⟩) n c).ownBlock=some k):¬V.fd kb k:=fun e=>by
 have h1:b=k:=by simpa [Value.ownBlock] using hk
 have:=h.lt e;omega
theorem first_do1 {w0:World}(W1 W:World)(kb bA bT:Nat)(h:FirstAt w0 W1 kb bootK)(hf:Fr W1 W (fun _=>False))(lA:W1.heap.size<=bA)(lT:W1.heap.size<=bT){t t':TypeId}(hA:W.heap[bA]?=some (.cells #[.int .i64 0] t (0,0)))(hT:W.heap[bT]?=some (.cells #[.int .i64 3] t' (0,0))):
 Calls Tryz.prog 11 #[.pointer (some ⟨kb,0,none⟩),.int .i64 64,.agg #[.int .i64 1,.slice (some ⟨bA,0,none⟩) 1 1,.slice (some ⟨bT,0,none⟩) 1 1,.int .i64 5,.int .i64 3,.int .i64 2,.int .i64 0,.int .i64 0,.int .i64 0,.int .i64 0],.slice none 0 0] W
  fun e w'=>e=.returned (.tuple #[.int .i64 0,.int .i64 0])/\FirstAt w0 w' kb k1:=by
 obtain ⟨V,h1,h4,h5⟩:=h;have h1w:=h1.frame hf (fun _ _=>id) (fun _=>False.elim);have hx:=kdo_x ⟨bootK,[]⟩ V kb callF1 (.slice (some ⟨bA,0,none⟩) 1 1) (.slice (some ⟨bT,0,none⟩) 1 1) none 0 64 W
  ⟨h1w,⟨_,boot_ag⟩,ints_one hA,ints_one hT,by decide,by decide,fun _ _ _ e=>by cases e;decide,fun _ _ _ e=>by cases e;decide,fun _=>own_far h1 lA,fun _=>own_far h1 lT⟩ (fun _ _=>(by decide:(0:Int)<=0/\(0:Int)<=4294967295))
 refine hx.mono ?_;rintro e w' ⟨he,ho⟩;rw [k1_ansX] at ho he;exact ⟨he,FirstAt.out h4 (h5.step hf (fun _=>False.elim)) ho⟩
theorem first_do2 {w0:World}(W1 W:World)(kb bA:Nat)(h:FirstAt w0 W1 kb k1)(hf:Fr W1 W (fun _=>False))(lA:W1.heap.size<=bA){t:TypeId}(hA:W.heap[bA]?=some (.cells #[.int .i64 3] t (0,0))):
 Calls Tryz.prog 11 #[.pointer (some ⟨kb,0,none⟩),.int .i64 64,.agg #[.int .i64 10,.slice (some ⟨bA,0,none⟩) 1 1,.slice none 0 0,.int .i64 0,.int .i64 0,.int .i64 0,.int .i64 0,.int .i64 0,.int .i64 9,.int .i64 7],.slice none 0 0] W
  fun e w'=>e=.returned (.tuple #[.int .i64 0,.int .i64 0])/\FirstAt w0 w' kb k2:=by
 obtain ⟨V,h1,h4,h5⟩:=h;have h1w:=h1.frame hf (fun _ _=>id) (fun _=>False.elim);have hx:=kdo_x ⟨k1,[]⟩ V kb callF2 (.slice (some ⟨bA,0,none⟩) 1 1) (.slice none 0 0) none 0 64 W
  ⟨h1w,⟨_,k1_ag⟩,ints_one hA,ints_nil W,by decide,by decide,fun _ _ _ e=>by cases e;decide,fun _ _ _ e=>by cases e;decide,fun _=>own_far h1 lA,fun _ k hk=>by cases hk⟩ k1_wb
 refine hx.mono ?_;rintro e w' ⟨he,ho⟩;rw [k2_ans] at ho he;exact ⟨he,FirstAt.out h4 (h5.step hf (fun _=>False.elim)) ho⟩
theorem first_do3 {w0:World}(W1 W:World)(kb bA:Nat)(h:FirstAt w0 W1 kb k2)(hf:Fr W1 W (fun _=>False))(lA:W1.heap.size<=bA){t:TypeId}(hA:W.heap[bA]?=some (.cells #[.int .i64 3] t (0,0))):
 Calls Tryz.prog 11 #[.pointer (some ⟨kb,0,none⟩),.int .i64 64,.agg #[.int .i64 9,.slice (some ⟨bA,0,none⟩) 1 1,.slice none 0 0,.int .i64 0,.int .i64 0,.int .i64 0,.int .i64 0,.int .i64 0,.int .i64 0,.int .i64 7],.slice none 0 0] W
  fun e w'=>e=.returned (.tuple #[.int .i64 9,.int .i64 0])/\FirstAt w0 w' kb k2:=by
 obtain ⟨V,h1,h4,h5⟩:=h;have h1w:=h1.frame hf (fun _ _=>id) (fun _=>False.elim);have hx:=kdo_x ⟨k2,[]⟩ V kb callF3 (.slice (some ⟨bA,0,none⟩) 1 1) (.slice none 0 0) none 0 64 W
  ⟨h1w,⟨_,k2_ag⟩,ints_one hA,ints_nil W,by decide,by decide,fun _ _ _ e=>by cases e;decide,fun _ _ _ e=>by cases e;decide,fun _=>own_far h1 lA,fun _ k hk=>by cases hk⟩ k2_wb
 refine hx.mono ?_;rintro e w' ⟨he,ho⟩;rw [k3_ans] at ho he;exact ⟨he,FirstAt.out h4 (h5.step hf (fun _=>False.elim)) ho⟩
theorem first_word {w0:World}(W:World)(kb:Nat)(h:FirstAt w0 W kb k2):
 Calls Tryz.prog 12 #[.pointer (some ⟨kb,0,none⟩),.int .i64 87] W fun e w'=>e=.returned (.tuple #[.int .i64 9,.int .i64 0])/\w'=W:=by
 obtain ⟨V,h1,h4,h5⟩:=h;have h2:V.ker=k2:=h1.kd.eq;have hw:∀i,i<1024->V.ws i=if i=87 then 9 else 0:=fun i hi=>by
  have e1:V.ws i=k2.ws i:=by rw [<- h2];rfl
  rw [e1];exact k2_ws i hi
 refine (kword_any V kb 87 W h1.kd.ker (fun i hi=>by rw [hw i hi];split<;>decide)).mono ?_
 rintro e w' ⟨he,ho⟩;refine ⟨?_,ho⟩;have h87:=hw 87 (by decide);rw [he];unfold wordAns;simp [h87]
structure CapsF (w:World)(g:Nat):Prop where
 mark:w.cell? ⟨g,7,none⟩=some (.int .i64 96)
 base:w.cell? ⟨g,43,none⟩=some (.int .i64 88)
 index:w.cell? ⟨g,41,none⟩=some (.int .i64 4)
theorem first_caps {w0:World}(hgl:Glob w0)(W:World)(kb:Nat)(h:FirstAt w0 W kb k2):
 Calls Tryz.prog 13 #[.pointer (some ⟨kb,0,none⟩)] W fun e w'=>∃g cap,e=.returned (.slice (some ⟨g,0,none⟩) 5 cap)/\CapsF w' g/\Fr w0 w' (fun _=>False):=by
 obtain ⟨V,h1,h4,h5⟩:=h;have h2:V.ker=k2:=h1.kd.eq;obtain ⟨F,hF⟩:=k2_rel.tree;obtain ⟨y,hy,hk⟩:=hF.roots;rw [<- h2] at hy;obtain ⟨x,hx,hp,hkx⟩:=look_of_st (V:=V) (s:=nowhere) (x:=y) hy;have hcaps:=k2_rel.caps hF;have hl:F.slots.length=5:=by rw [hF.slots,r1_list];rfl
 have hst:F.In (bl V.M) nowhere:=by have:=hF.stands;rw [<- h2] at this;exact this
 refine (kcaps_any V kb W h1.kd.ker (Glob.fr hgl h5) F x hst hx (hkx.trans hk) (fun s hs=>by rw [h2];exact (mem_slots k2_rel hF).1 hs) (by omega)).mono ?_
 rintro e w' ⟨v,he,ho,hf⟩;rw [h2,hcaps,hl,r1_list] at ho;obtain ⟨A,cap,rfl,hA⟩:=bk (f:=AEnt.vals) AEnt.vals_len ho;obtain ⟨g,rfl,hc⟩:=hA (by decide);have e0:=aentAt hc 0 (by decide);have e4:=aentAt hc 4 (by decide);exact ⟨g,cap,he,⟨e0.c7,e4.c3,e4.c1⟩,h5.step hf (fun _=>False.elim)⟩
theorem two_new (W:World)(o o':Obj):((W.alloc o).alloc o').heap[W.heap.size]?=some o/\((W.alloc o).alloc o').heap[W.heap.size+1]?=some o':=by
 have h:=heap_alloc_new (W.alloc o) o';rw [World.size_alloc] at h;exact ⟨((Fr.refl (W.alloc o) (fun _=>False)).alloc o').same (heap_alloc_new W o) id,h⟩
theorem first_any (w:World)(hgl:Glob w):
 Calls Tryz.prog 7 #[] w fun e w'=>e=.returned (.bool true)/\Fr w w' (fun _=>False):=by
 go_enter Tryz.func7,Tryz.ntmps7
 go_upto_region 4 with (go_at_call 10;refine (first_boot _ hgl).mono ?_;rintro e W1 ⟨kb,rfl,h1⟩)
 have c1:=first_do1 W1 ((W1.alloc (.cells #[.int .i64 0] 3)).alloc (.cells #[.int .i64 3] 3)) kb W1.heap.size (W1.heap.size+1) h1 (((Fr.refl _ _).alloc _).alloc _) (Nat.le_refl _) (by omega) (two_new W1 _ _).1 (two_new W1 _ _).2;go_upto_region 5 with (go_at_call 11;refine c1.mono ?_;rintro e W2 ⟨rfl,h2⟩)
 clear c1 h1;have c2:=first_do2 W2 (W2.alloc (.cells #[.int .i64 3] 3)) kb W2.heap.size h2 ((Fr.refl _ _).alloc _) (Nat.le_refl _) (heap_alloc_new _ _);go_upto_region 6 with (go_at_call 11;refine c2.mono ?_;rintro e W3 ⟨rfl,h3⟩)
 clear c2 h2;have c3:=first_word W3 kb h3;go_upto_region 7 with (go_at_call 12;refine c3.mono ?_;rintro e W4 ⟨rfl,rfl⟩)
 clear c3;have c4:=first_do3 W4 (W4.alloc (.cells #[.int .i64 3] 3)) kb W4.heap.size h3 ((Fr.refl _ _).alloc _) (Nat.le_refl _) (heap_alloc_new _ _);go_upto_region 8 with (go_at_call 11;refine c4.mono ?_;rintro e W5 ⟨rfl,h5⟩)
 clear c4 h3;have c5:=first_caps hgl W5 kb h5;go_upto_region 9 with (go_at_call 13;refine c5.mono ?_;rintro e W6 ⟨g,cap,rfl,h6,hf6⟩)
 clear c5 h5;obtain ⟨m1,m2,m3⟩:=h6;go_wp2;go_ret;exact ⟨rfl,hf6⟩
end Go.Proofs.YtdpjgflemddekaaGreatDoor
