/- The code: load and store. -/
import Derived.Test.YtdpjgflemddekaaDoorMWordA
import Derived.Test.YtdpjgflemddekaaDoorMCommC
import Derived.Test.YtdpjgflemddekaaDoorMCodeN
import Derived.Test.YtdpjgflemddekaaDoorMRootA
import Derived.Test.YtdpjgflemddekaaDoorMTalkP
import Derived.Test.YtdpjgflemddekaaDoorMInvF
import Derived.Test.YtdpjgflemddekaaDoorMCodeZ1
import Derived.KernelRfl
set_option maxRecDepth 100000
set_option maxHeartbeats 4000000
namespace Go.Proofs.YtdpjgflemddekaaDoor
open Go.RowKit
theorem wordOfK_range {K:Ker}{root:Int}{c:Cl}{right n:Int}(hB:∀s b n r,K.held s=some (.frame b n r)->0<=b/\0<=n/\n<=10/\b+pw n.toNat<=1024)(h:wordOfK K root c right=some (0,n)):0<=n/\n<1024:=by
 unfold wordOfK at h;cases hk:findK K root c.at_ with
 | none=>rw [hk] at h;cases h
 | some s=>
  rw [hk] at h;simp only at h;split at h
  ·rename_i b m r e;have:=hB s b m r e;split at h
   ·cases h
   ·split at h
    ·cases h
    ·cases h;omega
  ·cases h
theorem KGood.frB {S:KS}(h:KGood S)(s:Slot)(b n r:Int)(hc:S.K.held s=some (.frame b n r)):0<=b/\0<=n/\n<=10/\b+pw n.toNat<=1024:=h.capB hc
theorem load_any (kb ub:Nat)(S:KS)(V:KerV)(c:Cl)(av tv:Value)(th root:Int)(A:Option Addr)(cap:Nat)(w:World)(h:CallG w kb ub S V c av tv A cap th root)(hw:∀i,i<1024->0<=S.K.ws i/\S.K.ws i<=4294967295):
 Calls Tryd.prog 51 #[.pointer (some ⟨ub,0,none⟩)] w fun e w'=>(match loadK S.K root c with
  | none=>e=gup 2
  | some (v,x)=>e=.returned (.tuple #[.int .i64 v,.int .i64 x]))/\Fr w w' (fun _=>False):=by
 have hfe:=wordOf_any V kb ub c av tv _ th root 1 w h.call (by rw [h.kd.kd.eq];exact h.good.frB);rw [h.kd.kd.eq] at hfe;have hws:V.ws=S.K.ws:=by rw [<- h.kd.kd.eq];rfl
 have k0:=h.turn.ck;have hcw:=fun (i:Nat) (hi:i<1024)=>h.kd.kd.ker.cw (i:=i) hi
 cases hfi:wordOfK S.K root c 1 with
 | none=>
  have hr:loadK S.K root c=none:=by unfold loadK;rw [hfi]
  rw [hr];rw [hfi] at hfe;simp only [wordOut] at hfe;clear hr hfi;go_enter Tryd.func51,Tryd.ntmps51
  go_wp2_with ((go_at_call 80;refine hfe.mono ?_;rintro e W1 ⟨rfl,hf1⟩;unfold gup))
  exact ⟨rfl,rfl,hf1⟩
 | some y=>
  obtain ⟨x,n⟩:=y;rw [hfi] at hfe;simp only [wordOut] at hfe;by_cases hx:x=0
  ·subst hx;have hr:loadK S.K root c=some (S.K.ws n.toNat,0):=by unfold loadK;rw [hfi];simp
   rw [hr];obtain ⟨n0,n1⟩:=wordOfK_range h.good.frB hfi;clear hr hfi;obtain ⟨k,rfl⟩:=Int.eq_ofNat_of_zero_le n0;have hk:k<1024:=by omega
   have hk2:(k:Int)<1024:=by omega
   have kc:=hcw k hk;obtain ⟨w0,w1⟩:=hw k hk;rw [hws] at kc;rw [Int.toNat_natCast];generalize S.K.ws k=v at kc w0 w1 ⊢;have hwr:IntKind.i64.wrap v=v:=by simp [IntKind.wrap,IntKind.signed,IntKind.bits];omega
   clear hw hws hcw;go_enter Tryd.func51,Tryd.ntmps51
   go_wp2_with ((go_at_call 80;refine hfe.mono ?_;rintro e W1 ⟨rfl,hf1⟩;have r0:=hf1.cell k0 id;have r1:=hf1.cell kc id))
   go_ret2;exact ⟨rfl,hf1⟩
  ·have hr:loadK S.K root c=some (0,x):=by unfold loadK;rw [hfi];simp [hx]
   rw [hr];have hxe:(x==0)=false:=by simpa using hx
   clear hr hfi;go_enter Tryd.func51,Tryd.ntmps51
   go_wp2_with ((go_at_call 80;refine hfe.mono ?_;rintro e W1 ⟨rfl,hf1⟩))
   go_ret2;exact ⟨rfl,hf1⟩
theorem KD.putWs {w w1:World}{kb:Nat}{S:KS}{V:KerV}{v:Int}(h:KDG w kb S V)(hf:Fr w w1 (fun _=>False)){i:Nat}(hi:i<1024):KGOut w kb V ⟨Proofs.YtdpjgflemddekaaDoor.putWs S.K i v,S.D⟩ (w1.setCell ⟨kb,i,none⟩ (.int .u32 v)):=by
 have:=putW_out (v:=v) h.kd.ker hf hi;rw [h.kd.eq] at this;exact h.kout this
theorem store_any (kb ub:Nat)(S:KS)(V:KerV)(c:Cl)(av tv:Value)(th root:Int)(A:Option Addr)(cap:Nat)(w:World)(h:CallG w kb ub S V c av tv A cap th root):
 Calls Tryd.prog 52 #[.pointer (some ⟨ub,0,none⟩)] w fun e w'=>GotG w kb V ((orTwo S.K (storeK S.K root c)).1,{S with K:=(orTwo S.K (storeK S.K root c)).2}) e w':=by
 have hfe:=wordOf_any V kb ub c av tv _ th root 2 w h.call (by rw [h.kd.kd.eq];exact h.good.frB);rw [h.kd.kd.eq] at hfe;have k0:=h.turn.ck;have k9:=h.turn.cvalue;have hcw:=fun (i:Nat) (hi:i<1024)=>h.kd.kd.ker.cw (i:=i) hi
 have nk:kb≠ub:=fun e=>h.ub (.inl (.inl e.symm))
 generalize hR:storeK S.K root c=r;have HR:Hid (storeK S.K root c=r):=hR;clear hR;cases hfi:wordOfK S.K root c 2 with
 | none=>
  have hr:Hid (r=none):=by show _=_;rw [<- HR.out];unfold storeK;rw [hfi]
  rw [hfi] at hfe;simp only [wordOut] at hfe;clear HR hfi;go_enter Tryd.func52,Tryd.ntmps52
  go_wp2_with ((go_at_call 80;refine hfe.mono ?_;rintro e W1 ⟨rfl,hf1⟩;unfold gup))
  exact ⟨rfl,.inr (by rw [hr.out];rfl),by rw [hr.out];exact h.kd.stay hf1⟩
 | some y=>
  obtain ⟨x,n⟩:=y;rw [hfi] at hfe;simp only [wordOut] at hfe;by_cases hx:x=0
  ·subst hx;obtain ⟨n0,n1⟩:=wordOfK_range h.good.frB hfi;by_cases hv:0<=c.value/\c.value<=4294967295
   ·have hr:Hid (r=some (0,{S.K with ws:=putNs S.K.ws n.toNat c.value})):=by show _=_;rw [<- HR.out];unfold storeK;rw [hfi];simp only [ne_eq,not_true,if_false,if_pos hv]
    have hiw:=fun W=>isWord_any c.value W
    rw [decide_eq_true hv] at hiw;have hwr:IntKind.u32.wrap c.value=c.value:=by simp [IntKind.wrap,IntKind.signed,IntKind.bits];omega
    clear HR hfi;obtain ⟨k,rfl⟩:=Int.eq_ofNat_of_zero_le n0;have hk:k<1024:=by omega
    have hk2:(k:Int)<1024:=by omega
    have kc:=hcw k hk;rw [Int.toNat_natCast] at hr;go_enter Tryd.func52,Tryd.ntmps52
    go_upto_region 6 with (first
     |(go_at_call 80;refine hfe.mono ?_;rintro e W1 ⟨rfl,hf1⟩;have r0:=hf1.cell k0 id;have r1:=hf1.cell kc id;have r9:=hf1.cell k9 id;have hz:=(h.kd.kd.ker.frame hf1 (fun _ _=>id)).fz)
     |(go_at_call 77;refine (hiw _).mono ?_;rintro e W2 ⟨rfl,rfl⟩))
    go_region_held3 (fun w'=>w'.cell? ⟨ub,0,none⟩=some (.pointer (some ⟨kb,0,none⟩))/\w'.cell? ⟨ub,9,none⟩=some (.int .i64 c.value)) (go_keep) (fail)
    all_goals go_wp2
    all_goals go_ret2
    all_goals
     refine ⟨.inl (by rw [hr.out];rfl),?_⟩;rw [hr.out];exact KD.putWs (v:=c.value) (w1:=W2.drew) h.kd hf1.drew hk
   ·have hr:Hid (r=some (7,S.K)):=by show _=_;rw [<- HR.out];unfold storeK;rw [hfi];simp only [ne_eq,not_true,if_false,if_neg hv]
    have hiw:=fun W=>isWord_any c.value W
    rw [decide_eq_false hv] at hiw;clear HR hfi hv;go_enter Tryd.func52,Tryd.ntmps52
    go_wp2_with (first
     |(go_at_call 80;refine hfe.mono ?_;rintro e W1 ⟨rfl,hf1⟩;have r0:=hf1.cell k0 id;have r9:=hf1.cell k9 id)
     |(go_at_call 77;refine (hiw _).mono ?_;rintro e W2 ⟨rfl,rfl⟩))
    go_ret2;exact ⟨.inl (by rw [hr.out];rfl),by rw [hr.out];exact h.kd.stay hf1⟩
  ·have hr:Hid (r=some (x,S.K)):=by show _=_;rw [<- HR.out];unfold storeK;rw [hfi];simp only [if_pos hx]
   have hxe:(x==0)=false:=by simpa using hx
   clear HR hfi;go_enter Tryd.func52,Tryd.ntmps52
   go_wp2_with ((go_at_call 80;refine hfe.mono ?_;rintro e W1 ⟨rfl,hf1⟩))
   go_ret2;exact ⟨.inl (by rw [hr.out];rfl),by rw [hr.out];exact h.kd.stay hf1⟩
end Go.Proofs.YtdpjgflemddekaaDoor
namespace Go.Proofs.YtdpjgflemddekaaDoor
open Go.RowKit Go.Shelf
theorem meth_at7 (W:World):(Instr.index 87 methV (.int .i64 7)).run Tryd.prog W=.ok (.func (.func 49) #[] #[]) W:=by kernel_rfl
theorem meth_at8 (W:World):(Instr.index 87 methV (.int .i64 8)).run Tryd.prog W=.ok (.func (.func 50) #[] #[]) W:=by kernel_rfl
theorem meth_at11 (W:World):(Instr.index 87 methV (.int .i64 11)).run Tryd.prog W=.ok (.func (.func 53) #[] #[]) W:=by kernel_rfl
theorem cf7 (args:Array Value)(W:World):(callFunc 49 args).run Tryd.prog W=.ok (.enter 49 args) W:=by kernel_rfl
theorem cf8 (args:Array Value)(W:World):(callFunc 50 args).run Tryd.prog W=.ok (.enter 50 args) W:=by kernel_rfl
theorem cf11 (args:Array Value)(W:World):(callFunc 53 args).run Tryd.prog W=.ok (.enter 53 args) W:=by kernel_rfl
def newAns (S:KS):Option (Int×Int×Ker)->Int×Int×KS
 | none=>(0,2,S)
 | some y=>(y.1,y.2.1,⟨y.2.2,S.D⟩)
theorem orTwo_new {S:KS}{r:Option (Int×Ker)}:newAns S (r.map (fun y=>((0:Int),y.1,y.2)))=(0,(orTwo S.K r).1,{S with K:=(orTwo S.K r).2}):=by
 cases r with
 | none=>rfl
 | some p=>rfl
theorem kdo_x (S:KS)(V:KerV)(kb:Nat)(c:Cl)(av tv:Value)(ba:Option Addr)(bc:Nat)(th:Int)(w:World)(hc:CallI w kb S V c av tv)(hw:∀i,i<1024->0<=S.K.ws i/\S.K.ws i<=4294967295):
 Calls Tryd.prog 12 (doArgs kb th c av tv (.slice ba 0 bc)) w (fun e w'=>e=.returned (.tuple #[.int .i64 (doKX S th c []).1,.int .i64 (doKX S th c []).2.1])/\KGOut w kb V (doKX S th c []).2.2 w'):=by
 by_cases hk:7<=c.kind/\c.kind<=11
 ·have hX:doKX S th c []=newKS S th c:=if_pos hk;rw [hX];have h:=hc.kd;have hker:=h.kd.ker;have hV:V.ker=S.K:=h.kd.eq;have hstay:∀w',Fr w w' (fun _=>False)->KGOut w kb V S w':=fun w' hf=>h.stay hf
  cases ht:V.ker.thr th with
  | none=>
   have e:newKS S th c=(0,1,S):=by unfold newKS;rw [<- hV,ht]
   rw [e];exact (do_none V kb c av tv _ th w hker ht).mono fun e w' ⟨h1,h2⟩=>⟨h1,hstay _ h2⟩
  | some t=>
   by_cases hs:t.state=1
   ·have hthr:S.K.thr th=some t:=by rw [<- hV];exact ht
    have hN:newKS S th c=newAns S (newCall S.K th t.root c):=by unfold newKS;rw [hthr];simp only;rw [if_neg (by simpa using hs)];cases newCall S.K th t.root c<;>rfl
    rw [hN];have fin:∀r:Int×Int×KS,newAns S (newCall S.K th t.root c)=r->Calls Tryd.prog 12 (doArgs kb th c av tv (.slice ba 0 bc)) w (fun e w'=>∃x y K,e=.returned (.tuple #[.int .i64 x,.int .i64 y])/\KGOut w kb V K w'/\((x,y,K)=r))->
     Calls Tryd.prog 12 (doArgs kb th c av tv (.slice ba 0 bc)) w (fun e w'=>e=.returned (.tuple #[.int .i64 (newAns S (newCall S.K th t.root c)).1,.int .i64 (newAns S (newCall S.K th t.root c)).2.1])/\KGOut w kb V (newAns S (newCall S.K th t.root c)).2.2 w'):=by
     intro r e hr;rw [e];refine hr.mono ?_;rintro e w' ⟨x,y,K,h1,h2,rfl⟩;exact ⟨h1,h2⟩
    have got:∀{W:World} {r:Int×KS} {e:Ending} {w':World},GotG W kb V r e w'->∃x y K,(e=.returned (.tuple #[.int .i64 x,.int .i64 y])\/(e=gup y/\x=0))/\KGOut W kb V K w'/\((x,y,K)=(0,r.1,r.2)):=by
     intro W r e w' hx;obtain ⟨x,y,K,g1,g2,rfl,g4⟩:=got_of hx;exact ⟨_,y,K,g1,g2,by rw [<- g4]⟩
    have hk5:c.kind=7\/c.kind=8\/c.kind=9\/c.kind=10\/c.kind=11:=by omega
    rcases hk5 with e | e | e | e | e
    ·refine fin (0,(orTwo S.K (sendK S.K th t.root c)).1,{S with K:=(orTwo S.K (sendK S.K th t.root c)).2}) ?_ (do_any S V kb c av tv ba 0 bc th w h ht hs (by omega) (by omega) 49 (by rw [e];exact meth_at7) cf7 _ ?_)
     ·unfold newCall;rw [if_pos e];exact orTwo_new
     ·intro W ub hW hU hu;exact (send_any kb ub S V c av tv th t.root ba bc W (hc.at hW hU hu) hthr hs).mono fun e w' hx=>got hx
    ·refine fin (0,(orTwo S.K (recvK S.K th t.root c)).1,{S with K:=(orTwo S.K (recvK S.K th t.root c)).2}) ?_ (do_any S V kb c av tv ba 0 bc th w h ht hs (by omega) (by omega) 50 (by rw [e];exact meth_at8) cf8 _ ?_)
     ·unfold newCall;rw [if_neg (by omega),if_pos e];exact orTwo_new
     ·intro W ub hW hU hu;exact (recv_any kb ub S V c av tv th t.root ba bc W (hc.at hW hU hu) hthr hs).mono fun e w' hx=>got hx
    ·cases hl:loadK S.K t.root c with
     | none=>
      refine fin (0,2,S) ?_ (do_any S V kb c av tv ba 0 bc th w h ht hs (by omega) (by omega) 51 (by rw [e];exact meth_at9) cf9 _ ?_)
      ·unfold newCall;rw [if_neg (by omega),if_neg (by omega),if_pos e,hl];rfl
      ·intro W ub hW hU hu;have hcc:=hc.at hW hU hu;refine (load_any kb ub S V c av tv th t.root ba bc W hcc hw).mono fun e w' hx=>?_
       rw [hl] at hx;exact ⟨0,2,S,.inr ⟨hx.1,rfl⟩,hcc.kd.stay hx.2,rfl⟩
     | some p=>
      obtain ⟨v,x⟩:=p;refine fin (v,x,S) ?_ (do_any S V kb c av tv ba 0 bc th w h ht hs (by omega) (by omega) 51 (by rw [e];exact meth_at9) cf9 _ ?_)
      ·unfold newCall;rw [if_neg (by omega),if_neg (by omega),if_pos e,hl];rfl
      ·intro W ub hW hU hu;have hcc:=hc.at hW hU hu;refine (load_any kb ub S V c av tv th t.root ba bc W hcc hw).mono fun e w' hx=>?_
       rw [hl] at hx;exact ⟨v,x,S,.inl hx.1,hcc.kd.stay hx.2,rfl⟩
    ·refine fin (0,(orTwo S.K (storeK S.K t.root c)).1,{S with K:=(orTwo S.K (storeK S.K t.root c)).2}) ?_ (do_any S V kb c av tv ba 0 bc th w h ht hs (by omega) (by omega) 52 (by rw [e];exact meth_at10) cf10 _ ?_)
     ·unfold newCall;rw [if_neg (by omega),if_neg (by omega),if_neg (by omega),if_pos e];exact orTwo_new
     ·intro W ub hW hU hu;exact (store_any kb ub S V c av tv th t.root ba bc W (hc.at hW hU hu)).mono fun e w' hx=>got hx
    ·refine fin (0,(orTwo S.K (rootK S.K t.root c)).1,{S with K:=(orTwo S.K (rootK S.K t.root c)).2}) ?_ (do_any S V kb c av tv ba 0 bc th w h ht hs (by omega) (by omega) 53 (by rw [e];exact meth_at11) cf11 _ ?_)
     ·unfold newCall;rw [if_neg (by omega),if_neg (by omega),if_neg (by omega),if_neg (by omega)];exact orTwo_new
     ·intro W ub hW hU hu;exact (setRoot_any kb ub S V c av tv th t.root ba bc W (hc.at hW hU hu)).mono fun e w' hx=>got hx
   ·have e:newKS S th c=(0,1,S):=by unfold newKS;rw [<- hV,ht];simp [hs]
    rw [e];exact (do_still V kb c av tv _ th w hker ht hs).mono fun e w' ⟨h1,h2⟩=>⟨h1,hstay _ h2⟩
 ·have hX:doKX S th c []=(0,doKB S th c []):=if_neg hk;rw [hX];exact kdo_any S V kb c av tv ba bc th w hc (by omega)
end Go.Proofs.YtdpjgflemddekaaDoor
namespace Go.Proofs.YtdpjgflemddekaaDoor
def bootRef:Ref:=⟨bootList,[⟨0,6⟩],[⟨64,1,0,0,0,0⟩]⟩
def bootRS:RS:=⟨bootRef,[],fun _=>0,[]⟩
theorem qag_nil {K:Ker}(h:∀b,K.qs b=none):QAg [] K:=
 ⟨fun b y e=>(by rw [h b] at e;cases e),fun _ hw=>(by cases hw),fun _ hw=>(by cases hw),List.nodup_nil⟩
theorem boot_ag:Ag bootRS ⟨bootK,[]⟩:=⟨boot_inv,rfl,fun _ _=>rfl,qag_nil (fun _=>rfl)⟩
def aft (S:RS)(th:Int)(c:Cl):RS:=(doRX S th c []).2.2
def sc1:Cl:=⟨1,[0],[5],1,6,1,0,0,0,0⟩
def sc2:Cl:=⟨1,[5],[6],5,2,1,0,0,0,0⟩
def sc3:Cl:=⟨10,[6],[],0,0,0,0,0,9,0⟩
def sc4:Cl:=⟨2,[6],[7],0,0,0,1,0,0,0⟩
def sc5:Cl:=⟨5,[7],[],0,0,0,0,0,0,0⟩
def sc6:Cl:=⟨9,[6],[],0,0,0,0,0,0,0⟩
def sc7:Cl:=⟨6,[5],[],0,0,0,0,0,0,0⟩
def su1:RS:=aft bootRS 64 sc1
def su2:RS:=aft su1 64 sc2
def su3:RS:=aft su2 64 sc3
def su4:RS:=aft su3 64 sc4
def su5:RS:=aft su4 64 sc5
def su6:RS:=aft su5 64 sc6
def su7:RS:=aft su6 64 sc7
def su8:RS:=aft su7 64 sc2
def su9:RS:=aft su8 64 sc6
theorem su_a1:(doRX bootRS 64 sc1 []).2.1=0:=by kernel_rfl
theorem su_a2:(doRX su1 64 sc2 []).2.1=0:=by kernel_rfl
theorem su_a3:(doRX su2 64 sc3 []).2.1=0:=by kernel_rfl
theorem su_w3:su3.ws 128=9:=by kernel_rfl
theorem su_a4:(doRX su3 64 sc4 []).2.1=0:=by kernel_rfl
theorem su_a5:(doRX su4 64 sc5 []).2.1=0:=by kernel_rfl
theorem su_a6:(doRX su5 64 sc6 []).1=9/\(doRX su5 64 sc6 []).2.1=0:=⟨by kernel_rfl,by kernel_rfl⟩
theorem su_a7:(doRX su6 64 sc7 []).2.1=0:=by kernel_rfl
theorem su_a8:(doRX su7 64 sc2 []).2.1=0:=by kernel_rfl
theorem su_a9:(doRX su8 64 sc6 []).1=0/\(doRX su8 64 sc6 []).2.1=0:=⟨by kernel_rfl,by kernel_rfl⟩
def tcE:Cl:=⟨1,[0],[3],3,2,1,0,0,0,0⟩
def tcT:Cl:=⟨1,[0],[4],4,4,6,0,0,0,0⟩
def tcM (i:Nat)(b:Int):Cl:=⟨3,[3],[10+i],0,0,0,2,b,0,0⟩
def tcS (i:Nat)(v:Int):Cl:=⟨7,[10+i],[],0,0,0,0,0,v,0⟩
def tcR:Cl:=⟨8,[3],[],0,0,0,0,0,0,0⟩
def tcV:Cl:=⟨6,[3],[],0,0,0,0,0,0,0⟩
def tcD:Cl:=⟨5,[3],[],0,0,0,0,0,0,0⟩
def tkL (b:Nat->Int)(m:Nat):List Ent:=
 [⟨0,0,1,0,10,7,0,192,0⟩,⟨0,1,2,0,6,7,0,0,1⟩,⟨0,2,4,64,4,7,0,0,1⟩,⟨0,3,3,80,2,7,0,0,1⟩]++(List.range m).map (fun (j:Nat)=>(⟨0,10+j,3,80,2,2,b j,0,2⟩:Ent))++(List.range 6).map (fun (j:Nat)=>(⟨0,4+j,4,96+16*j,4,7,0,0,1⟩:Ent))
def tkT (b v:Nat->Int)(n r:Nat):List Thr:=
 ⟨64,1,0,match r with | 0=>0 | r+1=>v r,match r with | 0=>0 | r+1=>b r,0⟩ :: (List.range 6).map (fun (j:Nat)=>(⟨96+16*j,if r<=j/\j<n then 2 else 1,0,0,0,0⟩:Thr))
def tkQ (b v:Nat->Int)(n r:Nat):List Wt:=((List.range n).map (fun (j:Nat)=>(⟨80,96+16*j,true,v j,b j⟩:Wt))).drop r
def tkS (b v:Nat->Int)(m n r:Nat):RS:=⟨⟨tkL b m,[⟨0,6⟩],tkT b v n r⟩,[],fun _=>0,tkQ b v n r⟩
theorem tk_e:(doRX bootRS 64 tcE []).2.1=0:=by kernel_rfl
theorem tk_t (b v:Nat->Int):doRX (aft bootRS 64 tcE) 64 tcT []=(0,0,tkS b v 0 0 0):=by kernel_rfl
theorem doRX_mint {S:RS}{t:Thr}{c:Cl}{n ix n' ix':Int}{p:Nat}{e:Ent}{th:Int}(hk:c.kind=3)(ht:S.R.T.find? (isBaseT th)=some t)(hs:t.state=1)(hf:findI S.R.L S.R.N t.root c.at_=some (n,ix))(hi:S.R.L.findIdx? (isAt n ix)=some p)(hp:S.R.L[p]?=some e)
 (h3:e.ty=3) (h0:e.badge=0) (hr:0<=c.rights/\c.rights<=7) (hb:1<=c.badge/\c.badge<=65535) (hf':findI S.R.L S.R.N t.root c.to=some (n',ix')) (hn:(S.R.L.find? (isAt n' ix')).isSome=false) :
 doRX S th c []=(0,0,{S with R:={S.R with L:=layL S.R.L p e.up {e with node:=n',index:=ix',rights:=andI e.rights c.rights,badge:=c.badge,up:=0}}}):=by
 have hc:copyL S.R t.root c p e=(0,layL S.R.L p e.up {e with node:=n',index:=ix',rights:=andI e.rights c.rights,badge:=c.badge,up:=0}):=by
  unfold copyL;rw [if_neg (by omega),if_neg (by omega),if_neg (by omega),hf'];simp only;rw [if_neg (by rw [hn];decide),if_neg (by omega),if_pos hk]
 unfold doRX;rw [if_neg (by omega)];unfold doRB;rw [ht];simp only;rw [if_neg (by omega),if_neg (by omega),if_neg (by omega),hf];simp only;rw [hi];simp only;rw [hp];simp only;rw [hc]
theorem tk_mint (b v:Nat->Int)(i:Nat)(hi:i<6)(hb:1<=b i/\b i<=65535):doRX (tkS b v i i 0) 64 (tcM i (b i)) []=(0,0,tkS b v (i+1) i 0):=by
 have e:i=0\/i=1\/i=2\/i=3\/i=4\/i=5:=by omega
 rcases e with rfl | rfl | rfl | rfl | rfl | rfl
 ·exact (doRX_mint (t:=⟨64,1,0,0,0,0⟩) (n:=0) (ix:=3) (p:=3) (e:=⟨0,3,3,80,2,7,0,0,1⟩) (n':=0) (ix':=10) rfl (by kernel_rfl) rfl (by kernel_rfl) (by kernel_rfl) (by kernel_rfl) rfl rfl (show (0:Int)<=2/\(2:Int)<=7 by decide) hb (by kernel_rfl) (by kernel_rfl)).trans (by kernel_rfl)
 ·exact (doRX_mint (t:=⟨64,1,0,0,0,0⟩) (n:=0) (ix:=3) (p:=3) (e:=⟨0,3,3,80,2,7,0,0,1⟩) (n':=0) (ix':=11) rfl (by kernel_rfl) rfl (by kernel_rfl) (by kernel_rfl) (by kernel_rfl) rfl rfl (show (0:Int)<=2/\(2:Int)<=7 by decide) hb (by kernel_rfl) (by kernel_rfl)).trans (by kernel_rfl)
 ·exact (doRX_mint (t:=⟨64,1,0,0,0,0⟩) (n:=0) (ix:=3) (p:=3) (e:=⟨0,3,3,80,2,7,0,0,1⟩) (n':=0) (ix':=12) rfl (by kernel_rfl) rfl (by kernel_rfl) (by kernel_rfl) (by kernel_rfl) rfl rfl (show (0:Int)<=2/\(2:Int)<=7 by decide) hb (by kernel_rfl) (by kernel_rfl)).trans (by kernel_rfl)
 ·exact (doRX_mint (t:=⟨64,1,0,0,0,0⟩) (n:=0) (ix:=3) (p:=3) (e:=⟨0,3,3,80,2,7,0,0,1⟩) (n':=0) (ix':=13) rfl (by kernel_rfl) rfl (by kernel_rfl) (by kernel_rfl) (by kernel_rfl) rfl rfl (show (0:Int)<=2/\(2:Int)<=7 by decide) hb (by kernel_rfl) (by kernel_rfl)).trans (by kernel_rfl)
 ·exact (doRX_mint (t:=⟨64,1,0,0,0,0⟩) (n:=0) (ix:=3) (p:=3) (e:=⟨0,3,3,80,2,7,0,0,1⟩) (n':=0) (ix':=14) rfl (by kernel_rfl) rfl (by kernel_rfl) (by kernel_rfl) (by kernel_rfl) rfl rfl (show (0:Int)<=2/\(2:Int)<=7 by decide) hb (by kernel_rfl) (by kernel_rfl)).trans (by kernel_rfl)
 ·exact (doRX_mint (t:=⟨64,1,0,0,0,0⟩) (n:=0) (ix:=3) (p:=3) (e:=⟨0,3,3,80,2,7,0,0,1⟩) (n':=0) (ix':=15) rfl (by kernel_rfl) rfl (by kernel_rfl) (by kernel_rfl) (by kernel_rfl) rfl rfl (show (0:Int)<=2/\(2:Int)<=7 by decide) hb (by kernel_rfl) (by kernel_rfl)).trans (by kernel_rfl)
theorem doRX_talk {S:RS}{t:Thr}{c:Cl}{n ix:Int}{p:Nat}{e:Ent}{th:Int}(hk:c.kind=7\/c.kind=8)(ht:S.R.T.find? (isBaseT th)=some t)(hs:t.state=1)(hf:findI S.R.L S.R.N t.root c.at_=some (n,ix))(hi:S.R.L.findIdx? (isAt n ix)=some p)(hp:S.R.L[p]?=some e):
 doRX S th c []=(0,talkR S th c e):=by
 unfold doRX;rw [if_pos (by omega)];unfold newR;rw [ht];simp only;rw [if_neg (by omega),hf];simp only;rw [hi];simp only;rw [hp];simp only;rw [if_pos hk]
theorem talkR_none7 {S:RS}{b:Int}{c:Cl}{e:Ent}(hk:c.kind=7)(ht:e.ty=3)(hr:rbit e.rights 2=false)(hv:0<=c.value/\c.value<=4294967295)(hf:S.q.find? (meets e.base false)=none):
 talkR S b c e=(0,{S with R:={S.R with T:=setT b (stT 2) S.R.T},q:=S.q++[⟨e.base,b,true,c.value,e.badge⟩]}):=by
 unfold talkR;rw [if_neg (by omega),hk,if_neg (by rw [if_neg (by decide),hr];decide),if_neg (by omega),show decide ((7:Int)≠7)=false from rfl,hf];rfl
theorem tk_send (b v:Nat->Int)(i:Nat)(hi:i<6)(hv:0<=v i/\v i<=4294967295):doRX (tkS b v (i+1) i 0) (96+16*i) (tcS i (v i)) []=(0,0,tkS b v (i+1) (i+1) 0):=by
 have e:i=0\/i=1\/i=2\/i=3\/i=4\/i=5:=by omega
 rcases e with rfl | rfl | rfl | rfl | rfl | rfl
 ·exact (doRX_talk (t:=⟨96,1,0,0,0,0⟩) (n:=0) (ix:=10) (p:=4) (e:=⟨0,10,3,80,2,2,b 0,0,2⟩) (.inl rfl) (by kernel_rfl) rfl (by kernel_rfl) (by kernel_rfl) (by kernel_rfl)).trans ((congrArg (Prod.mk (0:Int)) (talkR_none7 rfl rfl (by kernel_rfl) hv (by kernel_rfl))).trans (by kernel_rfl))
 ·exact (doRX_talk (t:=⟨112,1,0,0,0,0⟩) (n:=0) (ix:=11) (p:=5) (e:=⟨0,11,3,80,2,2,b 1,0,2⟩) (.inl rfl) (by kernel_rfl) rfl (by kernel_rfl) (by kernel_rfl) (by kernel_rfl)).trans ((congrArg (Prod.mk (0:Int)) (talkR_none7 rfl rfl (by kernel_rfl) hv (by kernel_rfl))).trans (by kernel_rfl))
 ·exact (doRX_talk (t:=⟨128,1,0,0,0,0⟩) (n:=0) (ix:=12) (p:=6) (e:=⟨0,12,3,80,2,2,b 2,0,2⟩) (.inl rfl) (by kernel_rfl) rfl (by kernel_rfl) (by kernel_rfl) (by kernel_rfl)).trans ((congrArg (Prod.mk (0:Int)) (talkR_none7 rfl rfl (by kernel_rfl) hv (by kernel_rfl))).trans (by kernel_rfl))
 ·exact (doRX_talk (t:=⟨144,1,0,0,0,0⟩) (n:=0) (ix:=13) (p:=7) (e:=⟨0,13,3,80,2,2,b 3,0,2⟩) (.inl rfl) (by kernel_rfl) rfl (by kernel_rfl) (by kernel_rfl) (by kernel_rfl)).trans ((congrArg (Prod.mk (0:Int)) (talkR_none7 rfl rfl (by kernel_rfl) hv (by kernel_rfl))).trans (by kernel_rfl))
 ·exact (doRX_talk (t:=⟨160,1,0,0,0,0⟩) (n:=0) (ix:=14) (p:=8) (e:=⟨0,14,3,80,2,2,b 4,0,2⟩) (.inl rfl) (by kernel_rfl) rfl (by kernel_rfl) (by kernel_rfl) (by kernel_rfl)).trans ((congrArg (Prod.mk (0:Int)) (talkR_none7 rfl rfl (by kernel_rfl) hv (by kernel_rfl))).trans (by kernel_rfl))
 ·exact (doRX_talk (t:=⟨176,1,0,0,0,0⟩) (n:=0) (ix:=15) (p:=9) (e:=⟨0,15,3,80,2,2,b 5,0,2⟩) (.inl rfl) (by kernel_rfl) rfl (by kernel_rfl) (by kernel_rfl) (by kernel_rfl)).trans ((congrArg (Prod.mk (0:Int)) (talkR_none7 rfl rfl (by kernel_rfl) hv (by kernel_rfl))).trans (by kernel_rfl))
theorem tk_recv (b v:Nat->Int)(n r:Nat)(hn:n<=6)(hr:r<n):doRX (tkS b v n n r) 64 tcR []=(0,0,tkS b v n n (r+1)):=by
 have e:n=0\/n=1\/n=2\/n=3\/n=4\/n=5\/n=6:=by omega
 have e':r=0\/r=1\/r=2\/r=3\/r=4\/r=5:=by omega
 rcases e with rfl | rfl | rfl | rfl | rfl | rfl | rfl<;>rcases e' with rfl | rfl | rfl | rfl | rfl | rfl<;>first | (exfalso;omega) | (show _=_;kernel_rfl)
def tkZ (b v:Nat->Int)(n r:Nat):RS:=aft (aft (tkS b v n n r) 64 tcV) 64 tcD
theorem tk_end (b v:Nat->Int)(n:Nat)(hn:n<=6)(l:Bool):
 (doRX (tkS b v n n (if l then 0 else n)) 64 tcV []).2.1=0/\(doRX (aft (tkS b v n n (if l then 0 else n)) 64 tcV) 64 tcD []).2.1=0/\
 ∀i,i<n->((tkZ b v n (if l then 0 else n)).R.T.find? (isBaseT (96+16*i))).map Thr.thd=some ⟨1,0,0,0,if l then 9 else 0⟩:=by
 have e:n=0\/n=1\/n=2\/n=3\/n=4\/n=5\/n=6:=by omega
 cases l<;>rcases e with rfl | rfl | rfl | rfl | rfl | rfl | rfl<;>refine ⟨by kernel_rfl,by kernel_rfl,fun i hi=>?_⟩<;>
 (have e':i=0\/i=1\/i=2\/i=3\/i=4\/i=5:=by omega
  rcases e' with rfl | rfl | rfl | rfl | rfl | rfl<;>first | (exfalso;omega) | (show _=_;kernel_rfl))
end Go.Proofs.YtdpjgflemddekaaDoor
namespace Go.Proofs.YtdpjgflemddekaaDoor
open Go.RowKit Go.Shelf
def KR (w0 w:World)(kb:Nat)(R:RS):Prop:=
 ∃K V,Ag R ⟨K,[]⟩/\(∀i,0<=R.ws i/\R.ws i<=4294967295)/\KDG w kb ⟨K,[]⟩ V/\(∀k,V.fd kb k->w0.heap.size<=k)/\Fr w0 w (fun _=>False)
theorem KR.next {w0 w w':World}{kb:Nat}{R:RS}(h:KR w0 w kb R)(hf:Fr w w' (fun _=>False)):KR w0 w' kb R:=by
 obtain ⟨K,V,h1,h2,h3,h4,h5⟩:=h;exact ⟨K,V,h1,h2,h3.frame hf (fun _ _=>id) (fun _=>False.elim),h4,h5.step hf (fun _=>False.elim)⟩
theorem KR.base {w0 w:World}{kb:Nat}{R:RS}(h:KR w0 w kb R):Fr w0 w (fun _=>False):=by
 obtain ⟨K,V,h1,h2,h3,h4,h5⟩:=h;exact h5
theorem ints_one {w:World}{b:Nat}{x:Int}{t:TypeId}(h:w.heap[b]?=some (.cells #[.int .i64 x] t (0,0))):IntsAt w (.slice (some ⟨b,0,none⟩) 1 1) [x]:=by
 refine ⟨_,_,rfl,fun _=>⟨b,0,rfl,fun i hi=>?_⟩⟩
 have:i=0:=by simpa using hi
 subst this;exact cell_of_blk (o:=0) h rfl
theorem ints_nil (w:World):IntsAt w (.slice none 0 0) []:=⟨none,0,rfl,fun h=>absurd h (by decide)⟩
theorem kr_boot (w:World)(hgl:Glob w):Calls Tryd.prog 11 #[] w fun e w'=>∃kb,e=.returned (.pointer (some ⟨kb,0,none⟩))/\KR w w' kb bootRS:=by
 refine (boot_any w hgl.n0 hgl.n1).mono ?_;rintro e w' ⟨kb,V,h1,h2,h3,h4,h5,h6⟩;have hfd:∀k,V.fd kb k->w.heap.size<=k:=by
  rintro k (e | e)
  ·exact h5 k e
  ·rw [h4] at e;cases e
 have:=hgl.lt;refine ⟨kb,h1,bootK,V,boot_ag,fun _=>⟨Int.le_refl 0,(by decide:(0:Int)<=4294967295)⟩,⟨⟨h2,h3,?_,fun k hk=>by rw [h4] at hk;cases hk⟩,Glob.fr hgl h6,fun k hk=>by have:=hfd k hk;omega⟩,hfd,h6⟩
 rw [h4];exact World.ownsRow_nil _ _ _ _
theorem own_far {W1:World}{kb:Nat}{S:KS}{V:KerV}(h:KDG W1 kb S V){b:Nat}(hb:W1.heap.size<=b){n c:Nat}(k:Nat)(hk:(Value.slice (some ⟨b,0,none⟩) n c).ownBlock=some k):¬V.fd kb k:=fun e=>by
 have h1:b=k:=by simpa [Value.ownBlock] using hk
 have:=h.lt e;omega
theorem KR.do2 {w0 W1 W:World}{kb bA bT:Nat}{R:RS}(h:KR w0 W1 kb R)(hf:Fr W1 W (fun _=>False))(c:Cl)(th a b:Int)(hca:c.at_=[a])(hcb:c.to=[b])(lA:W1.heap.size<=bA)(lT:W1.heap.size<=bT){t t':TypeId}
 (hA:W.heap[bA]?=some (.cells #[.int .i64 a] t (0,0))) (hT:W.heap[bT]?=some (.cells #[.int .i64 b] t' (0,0))) :
 Calls Tryd.prog 12 (doArgs kb th c (.slice (some ⟨bA,0,none⟩) 1 1) (.slice (some ⟨bT,0,none⟩) 1 1) (.slice none 0 0)) W
  fun e w'=>e=.returned (.tuple #[.int .i64 (doRX R th c []).1,.int .i64 (doRX R th c []).2.1])/\KR w0 w' kb (aft R th c):=by
 obtain ⟨K,V,h1,h2,h3,h4,h5⟩:=h;have h3w:=h3.frame hf (fun _ _=>id) (fun _=>False.elim);have hx:=kdo_x ⟨K,[]⟩ V kb c (.slice (some ⟨bA,0,none⟩) 1 1) (.slice (some ⟨bT,0,none⟩) 1 1) none 0 th W
  ⟨h3w,⟨_,h1⟩,by rw [hca];exact ints_one hA,by rw [hcb];exact ints_one hT,by rw [hca];exact (by decide:1<=9000000000000000000),by rw [hcb];exact Nat.le_of_lt (by simp),fun _ _ _ e=>by cases e;decide,fun _ _ _ e=>by cases e;decide,fun _=>own_far h3 lA,fun _=>own_far h3 lT⟩ (fun i hi=>by rw [<- h1.ws i hi];exact h2 i)
 refine hx.mono ?_;rintro e w' ⟨he,ho⟩;obtain ⟨g1,g2,g3,g4⟩:=do_agreeX h1 th c [];rw [<- g1,<- g2] at he;refine ⟨he,?_⟩;generalize (doKX ⟨K,[]⟩ th c []).2.2=S' at g3 ho;obtain ⟨V',a1,a4,a5⟩:=ho;obtain ⟨K',D'⟩:=S';have hD:D'=[]:=g3.d.trans (g4 rfl h1.d.symm);subst hD;exact ⟨K',V',g3,doRX_ws R th c [] h2,a1,fun k hk=>(a5 k hk).elim (h4 k) (fun h=>Nat.le_trans (h5.step hf (fun _=>False.elim)).size h),(h5.step hf (fun _=>False.elim)).step a4 (fun k hk=>.inr (h4 k hk))⟩
theorem KR.do1 {w0 W1 W:World}{kb bA:Nat}{R:RS}(h:KR w0 W1 kb R)(hf:Fr W1 W (fun _=>False))(c:Cl)(th a:Int)(hca:c.at_=[a])(hcb:c.to=[])(lA:W1.heap.size<=bA){t:TypeId}
 (hA:W.heap[bA]?=some (.cells #[.int .i64 a] t (0,0))) :
 Calls Tryd.prog 12 (doArgs kb th c (.slice (some ⟨bA,0,none⟩) 1 1) (.slice none 0 0) (.slice none 0 0)) W
  fun e w'=>e=.returned (.tuple #[.int .i64 (doRX R th c []).1,.int .i64 (doRX R th c []).2.1])/\KR w0 w' kb (aft R th c):=by
 obtain ⟨K,V,h1,h2,h3,h4,h5⟩:=h;have h3w:=h3.frame hf (fun _ _=>id) (fun _=>False.elim);have hx:=kdo_x ⟨K,[]⟩ V kb c (.slice (some ⟨bA,0,none⟩) 1 1) (.slice none 0 0) none 0 th W
  ⟨h3w,⟨_,h1⟩,by rw [hca];exact ints_one hA,by rw [hcb];exact ints_nil W,by rw [hca];exact (by decide:1<=9000000000000000000),by rw [hcb];exact Nat.le_of_lt (by simp),fun _ _ _ e=>by cases e;decide,fun _ _ _ e=>by cases e;decide,fun _=>own_far h3 lA,fun _ k hk=>by cases hk⟩ (fun i hi=>by rw [<- h1.ws i hi];exact h2 i)
 refine hx.mono ?_;rintro e w' ⟨he,ho⟩;obtain ⟨g1,g2,g3,g4⟩:=do_agreeX h1 th c [];rw [<- g1,<- g2] at he;refine ⟨he,?_⟩;generalize (doKX ⟨K,[]⟩ th c []).2.2=S' at g3 ho;obtain ⟨V',a1,a4,a5⟩:=ho;obtain ⟨K',D'⟩:=S';have hD:D'=[]:=g3.d.trans (g4 rfl h1.d.symm);subst hD;exact ⟨K',V',g3,doRX_ws R th c [] h2,a1,fun k hk=>(a5 k hk).elim (h4 k) (fun h=>Nat.le_trans (h5.step hf (fun _=>False.elim)).size h),(h5.step hf (fun _=>False.elim)).step a4 (fun k hk=>.inr (h4 k hk))⟩
theorem KR.thread {w0 W:World}{kb:Nat}{R:RS}(h:KR w0 W kb R)(b:Int):
 Calls Tryd.prog 14 #[.pointer (some ⟨kb,0,none⟩),.int .i64 b] W fun e w'=>e=thdAns ((R.R.T.find? (isBaseT b)).map Thr.thd)/\Fr W w' (fun _=>False):=by
 obtain ⟨K,V,h1,h2,h3,h4,h5⟩:=h;refine (kthread_any V kb b W h3.kd.ker).mono ?_;rintro e w' ⟨he,hf⟩;refine ⟨?_,hf⟩;rw [he,show V.ker=K from h3.kd.eq,h1.core.rel.thr]
theorem KR.word {w0 W:World}{kb:Nat}{R:RS}(h:KR w0 W kb R)(n:Int)(hn:0<=n/\n<1024):
 Calls Tryd.prog 24 #[.pointer (some ⟨kb,0,none⟩),.int .i64 n] W fun e w'=>e=.returned (.tuple #[.int .i64 (R.ws n.toNat),.int .i64 0])/\w'=W:=by
 obtain ⟨K,V,h1,h2,h3,h4,h5⟩:=h;have hv:∀i,i<1024->V.ws i=R.ws i:=fun i hi=>by rw [h1.ws i hi,<- show V.ker=K from h3.kd.eq];rfl
 refine (kword_any V kb n W h3.kd.ker (fun i hi=>by rw [hv i hi];exact h2 i)).mono ?_;rintro e w' ⟨he,hf⟩;refine ⟨?_,hf⟩;rw [he];unfold wordAns;rw [if_pos hn,hv _ (by omega)]
theorem KR.caps {w0 W:World}{kb:Nat}{R:RS}(h:KR w0 W kb R)(hgl:Glob w0):
 Calls Tryd.prog 16 #[.pointer (some ⟨kb,0,none⟩)] W fun e w'=>∃v,e=.returned v/\w'.ownsRow W.heap.size 53 10 v R.R.L.length (rowA (capsTo R.R.L R.R.L.length))/\Fr W w' (fun _=>False):=by
 obtain ⟨K,V,h1,h2,h3,h4,h5⟩:=h;have hK:V.ker=K:=h3.kd.eq;subst hK;obtain ⟨F,hF⟩:=h1.core.rel.tree;obtain ⟨y,hy,hk⟩:=hF.roots;obtain ⟨x,hx,hp,hkx⟩:=look_of_st (V:=V) (s:=nowhere) (x:=y) hy;have hcaps:=h1.core.rel.caps hF;have hl:F.slots.length=R.R.L.length:=by rw [hF.slots];simp
 refine (kcaps_any V kb W h3.kd.ker (Glob.fr hgl h5) F x hF.stands hx (hkx.trans hk) (fun s hs=>(mem_slots h1.core.rel hF).1 hs) (by have:=h1.core.len;omega)).mono ?_
 rintro e w' ⟨v,he,ho,hf⟩;refine ⟨v,he,?_,hf⟩;rw [hcaps,hl] at ho;exact ho
def pickI (c n:Int):Int:=(if c<0 then -(c+1) else c) % n
theorem pickI_lt (c n:Int)(hn:0<n):0<=pickI c n/\pickI c n<n:=by
 unfold pickI;exact ⟨Int.emod_nonneg _ (by omega),Int.emod_lt_of_pos _ hn⟩
theorem pick_any (c n:Int)(w:World)(h0:-9223372036854775808<=c)(h1:c<=9223372036854775807)(hn:0<n)(hn1:n<=4294967296):
 Calls Tryd.prog 13 #[.int .i64 c,.int .i64 n] w fun e w'=>e=.returned (.int .i64 (pickI c n))/\w'=w:=by
 by_cases hc:c<0
 ·have HP:Hid (pickI c n=-((c+1).tmod n)):=by show _=_;unfold pickI;rw [if_pos hc,<- Int.tmod_eq_emod_of_nonneg (by omega),Int.neg_tmod]
  go_enter Tryd.func13,Tryd.ntmps13
  go_wp2;go_ret;exact ⟨by rw [HP.out];rfl,rfl⟩
 ·have HP:Hid (pickI c n=c % n):=by show _=_;unfold pickI;rw [if_neg hc]
  go_enter Tryd.func13,Tryd.ntmps13
  go_wp2;go_ret;exact ⟨by rw [HP.out];rfl,rfl⟩
theorem quiet_one {P:Program}{f:FuncId}{args:Array Value}{w:World}{n:Nat}{v:Value}(h:Calls P f args (w.drewN n) fun e w'=>e=.returned v/\w'=w.drewN n):Calls P f args (w.drewN n) fun e w'=>e=.returned v/\∃m,w'=w.drewN m:=
 h.mono fun _ _ ⟨a,b⟩=>⟨a,n,b⟩
theorem two_new (W:World)(o o':Obj):((W.alloc o).alloc o').heap[W.heap.size]?=some o/\((W.alloc o).alloc o').heap[W.heap.size+1]?=some o':=by
 have h:=heap_alloc_new (W.alloc o) o';rw [World.size_alloc] at h;exact ⟨((Fr.refl (W.alloc o) (fun _=>False)).alloc o').same (heap_alloc_new W o) id,h⟩
theorem KR.call2 {w0 W:World}{kb:Nat}{R:RS}(h:KR w0 W kb R)(c:Cl)(th a b:Int)(hca:c.at_=[a])(hcb:c.to=[b]):
 Calls Tryd.prog 12 (doArgs kb th c (.slice (some ⟨W.heap.size,0,none⟩) 1 1) (.slice (some ⟨W.heap.size+1,0,none⟩) 1 1) (.slice none 0 0)) ((W.alloc (.cells #[.int .i64 a] 3)).alloc (.cells #[.int .i64 b] 3))
  fun e w'=>e=.returned (.tuple #[.int .i64 (doRX R th c []).1,.int .i64 (doRX R th c []).2.1])/\KR w0 w' kb (aft R th c):=
 h.do2 (((Fr.refl _ _).alloc _).alloc _) c th a b hca hcb (Nat.le_refl _) (by omega) (two_new W _ _).1 (two_new W _ _).2
theorem KR.call1 {w0 W:World}{kb:Nat}{R:RS}(h:KR w0 W kb R)(c:Cl)(th a:Int)(hca:c.at_=[a])(hcb:c.to=[]):
 Calls Tryd.prog 12 (doArgs kb th c (.slice (some ⟨W.heap.size,0,none⟩) 1 1) (.slice none 0 0) (.slice none 0 0)) (W.alloc (.cells #[.int .i64 a] 3))
  fun e w'=>e=.returned (.tuple #[.int .i64 (doRX R th c []).1,.int .i64 (doRX R th c []).2.1])/\KR w0 w' kb (aft R th c):=
 h.do1 ((Fr.refl _ _).alloc _) c th a hca hcb (Nat.le_refl _) (heap_alloc_new _ _)
end Go.Proofs.YtdpjgflemddekaaDoor
namespace Go.Proofs.YtdpjgflemddekaaDoor
open Go.RowKit
structure AEntAt (w:World)(g o:Nat)(e:AEnt):Prop where
 c3:w.cell? ⟨g,o+3,none⟩=some (.int .i64 e.base)
 c8:w.cell? ⟨g,o+8,none⟩=some (.int .i64 e.parent)
 c9:w.cell? ⟨g,o+9,none⟩=some (.int .i64 e.place)
theorem aentAt {w:World}{g:Nat}{L:List AEnt}(h:∀i (hi:i<L.length) j x,(L[i].vals)[j]?=some x->w.cell? ⟨g,i*10+j,none⟩=some x)(i:Nat)(hi:i<L.length):AEntAt w g (i*10) L[i]:=
 ⟨h i hi 3 _ rfl,h i hi 8 _ rfl,h i hi 9 _ rfl⟩
theorem su_len:su9.R.L.length=5:=by kernel_rfl
theorem su_clen:(capsTo su9.R.L 5).length=5:=by kernel_rfl
theorem su_c3:((capsTo su9.R.L 5)[3]'(by rw [su_clen];decide)).base=128:=by kernel_rfl
theorem su_c4:((capsTo su9.R.L 5)[4]'(by rw [su_clen];decide)).base=128/\((capsTo su9.R.L 5)[4]'(by rw [su_clen];decide)).parent=0/\((capsTo su9.R.L 5)[4]'(by rw [su_clen];decide)).place=5:=⟨by kernel_rfl,by kernel_rfl,by kernel_rfl⟩
structure CapsS (w:World)(g:Nat):Prop where
 b3:w.cell? ⟨g,33,none⟩=some (.int .i64 128)
 b4:w.cell? ⟨g,43,none⟩=some (.int .i64 128)
 p4:w.cell? ⟨g,48,none⟩=some (.int .i64 0)
 l4:w.cell? ⟨g,49,none⟩=some (.int .i64 5)
theorem sure_caps {w0:World}(hgl:Glob w0)(W:World)(kb:Nat)(h:KR w0 W kb su9):
 Calls Tryd.prog 16 #[.pointer (some ⟨kb,0,none⟩)] W fun e w'=>∃g cap,e=.returned (.slice (some ⟨g,0,none⟩) 5 cap)/\CapsS w' g/\Fr W w' (fun _=>False):=by
 refine (h.caps hgl).mono ?_;rintro e w' ⟨v,he,ho,hf⟩;rw [su_len] at ho;have hcl:=su_clen;obtain ⟨A,cap,hv,hA⟩:=lies_of_owns (f:=AEnt.vals) AEnt.vals_len (L:=capsTo su9.R.L 5) (by rw [hcl];exact ho);rw [hcl] at hv;obtain ⟨g,rfl,hc⟩:=hA (by rw [hcl];decide);have e3:=aentAt hc 3 (by rw [hcl];decide);have e4:=aentAt hc 4 (by rw [hcl];decide);obtain ⟨x1,x2,x3⟩:=su_c4;refine ⟨g,cap,by rw [he,hv],⟨?_,?_,?_,?_⟩,hf⟩
 ·have:=e3.c3;rw [su_c3] at this;exact this
 ·have:=e4.c3;rw [x1] at this;exact this
 ·have:=e4.c8;rw [x2] at this;exact this
 ·have:=e4.c9;rw [x3] at this;exact this
theorem sure_any (w:World)(hgl:Glob w):
 Calls Tryd.prog 10 #[] w fun e w'=>e=.returned (.bool true)/\Fr w w' (fun _=>False):=by
 go_enter Tryd.func10,Tryd.ntmps10
 go_upto_region 4 with (go_at_call 11;refine (kr_boot _ hgl).mono ?_;rintro e W1 ⟨kb,rfl,h1⟩)
 go_upto_region 5 with (go_at_call 12;refine (h1.call2 sc1 64 0 5 rfl rfl).mono ?_;rintro e W2 ⟨he,h2⟩;rw [su_a1] at he;subst he)
 clear h1;go_upto_region 6 with (go_at_call 12;refine (KR.call2 (R:=su1) h2 sc2 64 5 6 rfl rfl).mono ?_;rintro e W3 ⟨he,h3⟩;rw [su_a2] at he;subst he)
 clear h2;go_upto_region 7 with (go_at_call 12;refine (KR.call1 (R:=su2) h3 sc3 64 6 rfl rfl).mono ?_;rintro e W4 ⟨he,h4⟩;rw [su_a3] at he;subst he)
 clear h3;go_upto_region 8 with (go_at_call 24;refine (KR.word (R:=su3) h4 128 (by decide)).mono ?_;rintro e W4' ⟨he,rfl⟩;rw [show su3.ws (Int.toNat 128)=9 from su_w3] at he;subst he)
 go_upto_region 9 with (go_at_call 12;refine (KR.call2 (R:=su3) h4 sc4 64 6 7 rfl rfl).mono ?_;rintro e W5 ⟨he,h5⟩;rw [su_a4] at he;subst he)
 clear h4;go_upto_region 10 with (go_at_call 12;refine (KR.call1 (R:=su4) h5 sc5 64 7 rfl rfl).mono ?_;rintro e W6 ⟨he,h6⟩;rw [su_a5] at he;subst he)
 clear h5;go_upto_region 11 with (go_at_call 12;refine (KR.call1 (R:=su5) h6 sc6 64 6 rfl rfl).mono ?_;rintro e W7 ⟨he,h7⟩;rw [su_a6.1,su_a6.2] at he;subst he)
 clear h6;go_upto_region 12 with (go_at_call 12;refine (KR.call1 (R:=su6) h7 sc7 64 5 rfl rfl).mono ?_;rintro e W8 ⟨he,h8⟩;rw [su_a7] at he;subst he)
 clear h7;go_upto_region 13 with (go_at_call 12;refine (KR.call2 (R:=su7) h8 sc2 64 5 6 rfl rfl).mono ?_;rintro e W9 ⟨he,h9⟩;rw [su_a8] at he;subst he)
 clear h8;go_upto_region 14 with (go_at_call 12;refine (KR.call1 (R:=su8) h9 sc6 64 6 rfl rfl).mono ?_;rintro e W10 ⟨he,h10⟩;rw [su_a9.1,su_a9.2] at he;subst he)
 clear h9;go_upto_region 15 with (go_at_call 16;refine (sure_caps hgl _ kb h10).mono ?_;rintro e W11 ⟨g,cap,rfl,h11,hf11⟩)
 have hF:=h10.base.step hf11 (fun _=>False.elim);clear h10;obtain ⟨m1,m2,m3,m4⟩:=h11;go_wp2;go_ret;exact ⟨rfl,hF⟩
end Go.Proofs.YtdpjgflemddekaaDoor
