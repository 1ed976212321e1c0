/- The code: load and store. -/
import Derived.Test.YtdpjgflemddekaaGreatDoorMCodeN
import Derived.Test.YtdpjgflemddekaaGreatDoorMRootA
import Derived.Test.YtdpjgflemddekaaGreatDoorMPollD
set_option maxRecDepth 100000
set_option maxHeartbeats 4000000
namespace Go.Proofs.YtdpjgflemddekaaGreatDoor
open Go.RowKit
theorem ya {K:a_}{root:Int}{c:Cl}{right n:Int}(hB:∀s b n r,K.held s=some (.frame b n r)->0<=b/\0<=n/\n<=10/\b+pw n.toNat<=1024)(h:el K root c right=some (0,n)):0<=n/\n<1024:=by
 unfold el at h;cases hk:az K root c.at_ with
 | none=>rw [hk] at h;cases h
 | some s=>
  rw [hk] at h;simp only at h;split at h
  ·rename_i b m r e;have:=hB s b m r e;split at h
   ·cases h
   ·split at h
    ·cases h
    ·cases h;omega
  ·cases h
theorem cm.frB {S:KS}(h:cm S)(s:Slot)(b n r:Int)(hc:S.K.held s=some (.frame b n r)):0<=b/\0<=n/\n<=10/\b+pw n.toNat<=1024:=h.capB hc
theorem a73 (kb ub:Nat)(S:KS)(V:ah)(c:Cl)(av tv:Value)(th root:Int)(bv:Value)(w:World)(h:s5 w kb ub S V c av tv bv th root)(hw:∀i,i<1024->0<=S.K.ws i/\S.K.ws i<=4294967295):
 Calls Tryz.prog 42 #[.pointer (some ⟨ub,0,none⟩)] w fun e w'=>(match m_ S.K root c with
  | none=>e=gup 2
  | some (v,x)=>e=.returned (.tuple #[.int .i64 v,.int .i64 x]))/\Fr w w' (fun _=>False):=by
 have hfe:=ao_ V kb ub c av tv _ th root 1 w h.call (by rw [h.kd.kd.eq];exact h.good.frB);rw [h.kd.kd.eq] at hfe;have hws:V.ws=S.K.ws:=by rw [<- h.kd.kd.eq];rfl
 have k0:=h.turn.ck;have hcw:=fun (i:Nat) (hi:i<1024)=>h.kd.kd.ker.cw (i:=i) hi
 cases hfi:el S.K root c 1 with
 | none=>
  have hr:m_ S.K root c=none:=by unfold m_;rw [hfi]
  rw [hr];rw [hfi] at hfe;simp only [ab_] at hfe;clear hr hfi;go_enter Tryz.func42,Tryz.ntmps42
  go_wp2_with ((go_at_call 77;refine hfe.mono ?_;rintro e W1 ⟨rfl,hf1⟩;unfold gup))
  exact ⟨rfl,rfl,hf1⟩
 | some y=>
  obtain ⟨x,n⟩:=y;rw [hfi] at hfe;simp only [ab_] at hfe;by_cases hx:x=0
  ·subst hx;have hr:m_ S.K root c=some (S.K.ws n.toNat,0):=by unfold m_;rw [hfi];simp
   rw [hr];obtain ⟨n0,n1⟩:=ya h.good.frB hfi;clear hr hfi;obtain ⟨k,rfl⟩:=Int.eq_ofNat_of_zero_le n0;have hk:k<1024:=by omega
   have hk2:(k:Int)<1024:=by omega
   have kc:=hcw k hk;obtain ⟨w0,w1⟩:=hw k hk;rw [hws] at kc;rw [Int.toNat_natCast];generalize S.K.ws k=v at kc w0 w1 ⊢;have hwr:IntKind.i64.wrap v=v:=by simp [IntKind.wrap,IntKind.signed,IntKind.bits];omega
   clear hw hws hcw;go_enter Tryz.func42,Tryz.ntmps42
   go_wp2_with ((go_at_call 77;refine hfe.mono ?_;rintro e W1 ⟨rfl,hf1⟩;have r0:=hf1.cell k0 id;have r1:=hf1.cell kc id))
   go_ret2;exact ⟨rfl,hf1⟩
  ·have hr:m_ S.K root c=some (0,x):=by unfold m_;rw [hfi];simp [hx]
   rw [hr];have hxe:(x==0)=false:=by simpa using hx
   clear hr hfi;go_enter Tryz.func42,Tryz.ntmps42
   go_wp2_with ((go_at_call 77;refine hfe.mono ?_;rintro e W1 ⟨rfl,hf1⟩))
   go_ret2;exact ⟨rfl,hf1⟩
theorem KD.putWs {w w1:World}{kb:Nat}{S:KS}{V:ah}{v:Int}(h:s_ w kb S V)(hf:Fr w w1 (fun _=>False)){i:Nat}(hi:i<1024):fg w kb V ⟨Proofs.YtdpjgflemddekaaGreatDoor.putWs S.K i v,S.D⟩ (w1.setCell ⟨kb,i,none⟩ (.int .u32 v)):=by
 have:=bw1 (v:=v) h.kd.ker hf hi;rw [h.kd.eq] at this;exact h.kout this
theorem bi_ (kb ub:Nat)(S:KS)(V:ah)(c:Cl)(av tv:Value)(th root:Int)(bv:Value)(w:World)(h:s5 w kb ub S V c av tv bv th root):
 Calls Tryz.prog 43 #[.pointer (some ⟨ub,0,none⟩)] w fun e w'=>a90 w kb V ((dj S.K (ig S.K root c)).1,{S with K:=(dj S.K (ig S.K root c)).2}) e w':=by
 have hfe:=ao_ V kb ub c av tv _ th root 2 w h.call (by rw [h.kd.kd.eq];exact h.good.frB);rw [h.kd.kd.eq] at hfe;have k0:=h.turn.ck;have k9:=h.turn.cvalue;have hcw:=fun (i:Nat) (hi:i<1024)=>h.kd.kd.ker.cw (i:=i) hi
 have nk:kb≠ub:=fun e=>h.ub (.inl (.inl e.symm))
 generalize hR:ig S.K root c=r;have HR:Hid (ig S.K root c=r):=hR;clear hR;cases hfi:el S.K root c 2 with
 | none=>
  have hr:Hid (r=none):=by show _=_;rw [<- HR.out];unfold ig;rw [hfi]
  rw [hfi] at hfe;simp only [ab_] at hfe;clear HR hfi;go_enter Tryz.func43,Tryz.ntmps43
  go_wp2_with ((go_at_call 77;refine hfe.mono ?_;rintro e W1 ⟨rfl,hf1⟩;unfold gup))
  exact ⟨rfl,.inr (by rw [hr.out];rfl),by rw [hr.out];exact h.kd.stay hf1⟩
 | some y=>
  obtain ⟨x,n⟩:=y;rw [hfi] at hfe;simp only [ab_] at hfe;by_cases hx:x=0
  ·subst hx;obtain ⟨n0,n1⟩:=ya h.good.frB hfi;by_cases hv:0<=c.value/\c.value<=4294967295
   ·have hr:Hid (r=some (0,{S.K with ws:=qu S.K.ws n.toNat c.value})):=by show _=_;rw [<- HR.out];unfold ig;rw [hfi];simp only [ne_eq,not_true,if_false,if_pos hv]
    have hiw:=fun W=>vf c.value W
    rw [decide_eq_true hv] at hiw;have hwr:IntKind.u32.wrap c.value=c.value:=by simp [IntKind.wrap,IntKind.signed,IntKind.bits];omega
    clear HR hfi;obtain ⟨k,rfl⟩:=Int.eq_ofNat_of_zero_le n0;have hk:k<1024:=by omega
    have hk2:(k:Int)<1024:=by omega
    have kc:=hcw k hk;rw [Int.toNat_natCast] at hr;go_enter Tryz.func43,Tryz.ntmps43
    go_upto_region 6 with (first
     |(go_at_call 77;refine hfe.mono ?_;rintro e W1 ⟨rfl,hf1⟩;have r0:=hf1.cell k0 id;have r1:=hf1.cell kc id;have r9:=hf1.cell k9 id;have hz:=(h.kd.kd.ker.frame hf1 (fun _ _=>id)).fz)
     |(go_at_call 74;refine (hiw _).mono ?_;rintro e W2 ⟨rfl,rfl⟩))
    go_region_held3 (fun w'=>w'.cell? ⟨ub,0,none⟩=some (.pointer (some ⟨kb,0,none⟩))/\w'.cell? ⟨ub,9,none⟩=some (.int .i64 c.value)) (go_keep) (fail)
    all_goals go_wp2
    all_goals go_ret2
    all_goals
     refine ⟨.inl (by rw [hr.out];rfl),?_⟩;rw [hr.out];exact KD.putWs (v:=c.value) (w1:=W2.drew) h.kd hf1.drew hk
   ·have hr:Hid (r=some (7,S.K)):=by show _=_;rw [<- HR.out];unfold ig;rw [hfi];simp only [ne_eq,not_true,if_false,if_neg hv]
    have hiw:=fun W=>vf c.value W
    rw [decide_eq_false hv] at hiw;clear HR hfi hv;go_enter Tryz.func43,Tryz.ntmps43
    go_wp2_with (first
     |(go_at_call 77;refine hfe.mono ?_;rintro e W1 ⟨rfl,hf1⟩;have r0:=hf1.cell k0 id;have r9:=hf1.cell k9 id)
     |(go_at_call 74;refine (hiw _).mono ?_;rintro e W2 ⟨rfl,rfl⟩))
    go_ret2;exact ⟨.inl (by rw [hr.out];rfl),by rw [hr.out];exact h.kd.stay hf1⟩
  ·have hr:Hid (r=some (x,S.K)):=by show _=_;rw [<- HR.out];unfold ig;rw [hfi];simp only [if_pos hx]
   have hxe:(x==0)=false:=by simpa using hx
   clear HR hfi;go_enter Tryz.func43,Tryz.ntmps43
   go_wp2_with ((go_at_call 77;refine hfe.mono ?_;rintro e W1 ⟨rfl,hf1⟩))
   go_ret2;exact ⟨.inl (by rw [hr.out];rfl),by rw [hr.out];exact h.kd.stay hf1⟩
end Go.Proofs.YtdpjgflemddekaaGreatDoor
namespace Go.Proofs.YtdpjgflemddekaaGreatDoor
open Go.RowKit Go.Shelf
theorem by1 (W:World):(Instr.index 88 oy (.int .i64 7)).run Tryz.prog W=.ok (.func (.func 40) #[] #[]) W:=by kernel_rfl
theorem bt5 (W:World):(Instr.index 88 oy (.int .i64 8)).run Tryz.prog W=.ok (.func (.func 41) #[] #[]) W:=by kernel_rfl
theorem bj8 (W:World):(Instr.index 88 oy (.int .i64 11)).run Tryz.prog W=.ok (.func (.func 44) #[] #[]) W:=by kernel_rfl
theorem cf7 (args:Array Value)(W:World):(callFunc 40 args).run Tryz.prog W=.ok (.enter 40 args) W:=by kernel_rfl
theorem cf8 (args:Array Value)(W:World):(callFunc 41 args).run Tryz.prog W=.ok (.enter 41 args) W:=by kernel_rfl
theorem b87 (args:Array Value)(W:World):(callFunc 44 args).run Tryz.prog W=.ok (.enter 44 args) W:=by kernel_rfl
def ad6 (S:KS):Option (Int×Int×a_)->Int×Int×KS
 | none=>(0,2,S)
 | some y=>(y.1,y.2.1,⟨y.2.2,S.D⟩)
theorem xn {S:KS}{r:Option (Int×a_)}:ad6 S (r.map (fun y=>((0:Int),y.1,y.2)))=(0,(dj S.K r).1,{S with K:=(dj S.K r).2}):=by
 cases r with
 | none=>rfl
 | some p=>rfl
theorem b33 (S:KS)(V:ah)(kb:Nat)(c:Cl)(av tv:Value)(ba:Option Addr)(bn bc:Nat)(th:Int)(w:World)(hc:CallI w kb S V c av tv)(hw:∀i,i<1024->0<=S.K.ws i/\S.K.ws i<=4294967295)(hk:7<=c.kind/\c.kind<=11):
 Calls Tryz.prog 11 (kf kb th c av tv (.slice ba bn bc)) w (fun e w'=>e=.returned (.tuple #[.int .i64 (px S th c).1,.int .i64 (px S th c).2.1])/\fg w kb V (px S th c).2.2 w'):=by
 have h:=hc.kd;have hker:=h.kd.ker;have hV:V.ker=S.K:=h.kd.eq;have hstay:∀w',Fr w w' (fun _=>False)->fg w kb V S w':=fun w' hf=>h.stay hf
 cases ht:V.ker.thr th with
 | none=>
  have e:px S th c=(0,1,S):=by unfold px;rw [<- hV,ht]
  rw [e];exact (bf1 V kb c av tv _ th w hker ht).mono fun e w' ⟨h1,h2⟩=>⟨h1,hstay _ h2⟩
 | some t=>
  by_cases hs:t.state=1
  ·have hthr:S.K.thr th=some t:=by rw [<- hV];exact ht
   have hN:px S th c=ad6 S (du S.K th t.root c):=by unfold px;rw [hthr];simp only;rw [if_neg (by simpa using hs)];cases du S.K th t.root c<;>rfl
   rw [hN];have fin:∀r:Int×Int×KS,ad6 S (du S.K th t.root c)=r->Calls Tryz.prog 11 (kf kb th c av tv (.slice ba bn bc)) w (fun e w'=>∃x y K,e=.returned (.tuple #[.int .i64 x,.int .i64 y])/\fg w kb V K w'/\((x,y,K)=r))->
    Calls Tryz.prog 11 (kf kb th c av tv (.slice ba bn bc)) w (fun e w'=>e=.returned (.tuple #[.int .i64 (ad6 S (du S.K th t.root c)).1,.int .i64 (ad6 S (du S.K th t.root c)).2.1])/\fg w kb V (ad6 S (du S.K th t.root c)).2.2 w'):=by
    intro r e hr;rw [e];refine hr.mono ?_;rintro e w' ⟨x,y,K,h1,h2,rfl⟩;exact ⟨h1,h2⟩
   have got:∀{W:World} {r:Int×KS} {e:Ending} {w':World} {ub:Nat},a90 W kb V r e w'->∃x y K,(e=.returned (.tuple #[.int .i64 x,.int .i64 y])\/(e=gup y/\x=0))/\r_ W kb ub V K w'/\((x,y,K)=(0,r.1,r.2)):=by
    intro W r e w' ub hx;obtain ⟨x,y,K,g1,g2,rfl,g4⟩:=au8 hx;exact ⟨_,y,K,g1,g2,by rw [<- g4]⟩
   have hk5:c.kind=7\/c.kind=8\/c.kind=9\/c.kind=10\/c.kind=11:=by omega
   rcases hk5 with e | e | e | e | e
   ·refine fin (0,(dj S.K (mg S.K th t.root c)).1,{S with K:=(dj S.K (mg S.K th t.root c)).2}) ?_ (pz S V kb c av tv ba bn bc th w h ht hs (by omega) (by omega) 40 (by rw [e];exact by1) cf7 _ ?_)
    ·unfold du;rw [if_pos e];exact xn
    ·intro W ub hW hU hu;exact (bu4 kb ub S V c av tv th t.root (.slice ba bn bc) W (hc.at hW hU hu) hthr hs).mono fun e w' hx=>got hx
   ·refine fin (0,(dj S.K (ow S.K th t.root c)).1,{S with K:=(dj S.K (ow S.K th t.root c)).2}) ?_ (pz S V kb c av tv ba bn bc th w h ht hs (by omega) (by omega) 41 (by rw [e];exact bt5) cf8 _ ?_)
    ·unfold du;rw [if_neg (by omega),if_pos e];exact xn
    ·intro W ub hW hU hu;exact (bt0 kb ub S V c av tv th t.root (.slice ba bn bc) W (hc.at hW hU hu) hthr hs).mono fun e w' hx=>got hx
   ·cases hl:m_ S.K t.root c with
    | none=>
     refine fin (0,2,S) ?_ (pz S V kb c av tv ba bn bc th w h ht hs (by omega) (by omega) 42 (by rw [e];exact a4_) cf9 _ ?_)
     ·unfold du;rw [if_neg (by omega),if_neg (by omega),if_pos e,hl];rfl
     ·intro W ub hW hU hu;have hcc:=hc.at hW hU hu;refine (a73 kb ub S V c av tv th t.root (.slice ba bn bc) W hcc hw).mono fun e w' hx=>?_
      rw [hl] at hx;exact ⟨0,2,S,.inr ⟨hx.1,rfl⟩,(hcc.kd.stay hx.2).u,rfl⟩
    | some p=>
     obtain ⟨v,x⟩:=p;refine fin (v,x,S) ?_ (pz S V kb c av tv ba bn bc th w h ht hs (by omega) (by omega) 42 (by rw [e];exact a4_) cf9 _ ?_)
     ·unfold du;rw [if_neg (by omega),if_neg (by omega),if_pos e,hl];rfl
     ·intro W ub hW hU hu;have hcc:=hc.at hW hU hu;refine (a73 kb ub S V c av tv th t.root (.slice ba bn bc) W hcc hw).mono fun e w' hx=>?_
      rw [hl] at hx;exact ⟨v,x,S,.inl hx.1,(hcc.kd.stay hx.2).u,rfl⟩
   ·refine fin (0,(dj S.K (ig S.K t.root c)).1,{S with K:=(dj S.K (ig S.K t.root c)).2}) ?_ (pz S V kb c av tv ba bn bc th w h ht hs (by omega) (by omega) 43 (by rw [e];exact bj4) b90 _ ?_)
    ·unfold du;rw [if_neg (by omega),if_neg (by omega),if_neg (by omega),if_pos e];exact xn
    ·intro W ub hW hU hu;exact (bi_ kb ub S V c av tv th t.root (.slice ba bn bc) W (hc.at hW hU hu)).mono fun e w' hx=>got hx
   ·refine fin (0,(dj S.K (ue S.K t.root c)).1,{S with K:=(dj S.K (ue S.K t.root c)).2}) ?_ (pz S V kb c av tv ba bn bc th w h ht hs (by omega) (by omega) 44 (by rw [e];exact bj8) b87 _ ?_)
    ·unfold du;rw [if_neg (by omega),if_neg (by omega),if_neg (by omega),if_neg (by omega)];exact xn
    ·intro W ub hW hU hu;exact (a54 kb ub S V c av tv th t.root (.slice ba bn bc) W (hc.at hW hU hu)).mono fun e w' hx=>got hx
  ·have e:px S th c=(0,1,S):=by unfold px;rw [<- hV,ht];simp [hs]
   rw [e];exact (az1 V kb c av tv _ th w hker ht hs).mono fun e w' ⟨h1,h2⟩=>⟨h1,hstay _ h2⟩
attribute [local go_sem] Oper.semAt_some
structure b85 (W1:World)(kb ub rb g0 d:Nat)(c:Cl)(av tv:Value)(th root:Int)(V:ah)(K:a_)(D:List (Int×Int))(f:Slot)(b n m:Int)(y:Int×List Bool×Bool)(o2:Obj)(k:Nat)(wr:World)(mc:Int)(V':ah)(bs:List Bool):Prop where
 kd:s_ wr kb ⟨ed K f b n m mc,D⟩ V'
 ge:0<=mc
 le:mc<=m
 ends:xx dwn low k mc
 left:ao dwn low k mc bs=y
 fr:Fr W1 wr (fun k=>V.fd kb k\/k=d+1\/k=ub\/k=rb)
 sub:∀k,V'.fd kb k->V.fd kb k\/W1.heap.size<=k
 o2:wr.heap[d+1]?=some o2
 tb:TB wr ub kb g0 c av tv th root bs
 rb:∃v,wr.heap[rb]?=some (.cells #[.int .i64 v] 36 (0,0))
structure b82 (W1:World)(kb ub rb g0 d:Nat)(c:Cl)(av tv:Value)(th root:Int)(V:ah)(K:a_)(D:List (Int×Int))(f:Slot)(b n m:Int)(y:Int×List Bool×Bool)(o2 o3:Obj)(W':World):Prop where
 ex:∃V',s_ W' kb ⟨ed K f b n m y.1,D⟩ V'/\∀k,V'.fd kb k->V.fd kb k\/W1.heap.size<=k
 fr:Fr W1 W' (fun k=>V.fd kb k\/k=d+1\/k=ub\/k=rb)
 tb:TB W' ub kb g0 c av tv th root y.2.1
 o:W'.heap[d+1]?=some (if y.2.2 then o2 else o3)
 rb:∃v,W'.heap[rb]?=some (.cells #[.int .i64 v] 36 (0,0))/\(y.2.2=false->v=8)
theorem a83 (kb wb sb ub rb g0 d:Nat)(c:Cl)(av tv:Value)(th root:Int)(bs:List Bool)(o1 o2 o3:Obj)(K:a_)(D:List (Int×Int))(f:Slot)(b n m:Int)(V:ah)(W1:World)(h:s_ W1 kb ⟨K,D⟩ V)(hk:K.held f=some (.untyped b n m))(hb0:0<=b)(hm0:0<=m)(hbm:b+m<=1024)
 (hb:W1.heap[wb]?=some (.cells #[.pointer (some ⟨kb,0,none⟩)] 34 (0,0))) (hs:W1.heap[sb]?=some (.cells #[.int .i64 f.node,.int .i64 f.index] 71 (0,0))) (hA:Far W1 kb ub rb g0 d wb V) (hAs:Far W1 kb ub rb g0 d sb V)
 (hT:TB W1 ub kb g0 c av tv th root bs) (hd:W1.heap[d]?=some o1) (hl:W1.heap[d+1]?=some o2) (hrb:∃v,W1.heap[rb]?=some (.cells #[.int .i64 v] 36 (0,0)))
 (hgo:b22 Fence.wide 0 Tryz.prog d o1 o2 o3 (PI W1 (V.fd kb) d ub rb kb g0 c av tv th root) (PB ub rb kb g0 c av tv th root)) :
 CallsIn Fence.wide 1 Tryz.prog 96 #[.func (.yield (d+1)) #[] #[],.pointer (some ⟨wb,0,none⟩),.pointer (some ⟨sb,0,none⟩)] W1 fun e W'=>(∃v,e=.returned v)/\b82 W1 kb ub rb g0 d c av tv th root V K D f b n m (b_ m bs) o2 o3 W':=by
 have hwb:=hA.nwb;have hsb:=hAs.nwb;have hdn:=hA.nd;have hdn1:=hA.nd1;have hrl:=hA.rl;have hul:=hA.ul;have hud:=hA.ud;have nwb:¬(V.fd kb wb\/wb=d+1\/wb=ub\/wb=rb):=by
  rintro (e | e | e | e)
  ·exact hA.nwb e
  ·exact hA.wd e
  ·exact hA.wu e
  ·exact hA.wr e
 have nsb:¬(V.fd kb sb\/sb=d+1\/sb=ub\/sb=rb):=by
  rintro (e | e | e | e)
  ·exact hAs.nwb e
  ·exact hAs.wd e
  ·exact hAs.wu e
  ·exact hAs.wr e
 have nd:¬(V.fd kb d\/d=d+1\/d=ub\/d=rb):=by
  rintro (e | e | e | e)
  ·exact hA.nd e
  ·omega
  ·exact hA.ud.1 e.symm
  ·omega
 have hdd:∀k:Nat,(Fence.wide.depth.isSome=true->1<=k):=fun k h=>by cases h
 have hlt1:d+1<W1.heap.size:=(Array.getElem?_eq_some_iff.1 hl).1;have hwlt:wb<W1.heap.size:=(Array.getElem?_eq_some_iff.1 hb).1;have hslt:sb<W1.heap.size:=(Array.getElem?_eq_some_iff.1 hs).1;refine callsIn_wide.2 ?_;obtain ⟨y,hm0'⟩:∃y,Hid (y=b_ m bs):=⟨_,rfl⟩;rw [<- hm0'.out];go_enter Tryz.func96,Tryz.ntmps96
 go_wp2;go_loopg [23] 100 (fun k _ wr=>∃mc V' bs',b85 W1 kb ub rb g0 d c av tv th root V K D f b n m y o2 k wr mc V' bs')
 case atStart=>exact ⟨m,V,bs,by rw [a49 hk];exact h,hm0,Int.le_refl _,ag7 100 m (by omega),hm0'.out.symm,Fr.refl _ _,fun k hk=>.inl hk,hl,hT,hrb⟩
 case round=>
  obtain ⟨mc,V',bs',hI⟩:=hrel;obtain ⟨hK,hge,hle,hE,hL,hF,hsub,ho2,hTB,hRB⟩:=hI;have hbw:=hF.same hb nwb;have hbs:=hF.same hs nsb;have c0:=aa (o:=0) hbw rfl;have c1:=hK.kd.ker.ch;have s0:=aa (o:=0) hbs rfl;have s1:=aa (o:=1) hbs rfl;have l0:=World.block_lt_of_cell? _ _ c0;have l1:=World.block_lt_of_cell? _ _ c1;have l2:=World.block_lt_of_cell? _ _ s0;have hf2:=(Fr.refl wr (fun _=>False)).alloc (.cells #[.int .i64 0,.int .i64 0,.int .i64 0] 76);have hhk:V'.ker.held f=some (.untyped b n mc):=by rw [hK.kd.eq];simp [ed,upd]
  have hrun:=be (hK.kd.ker.frame ((Fr.refl wr (fun _=>False)).drew) (fun _ _=>id)) f false;have hrun2:=be (hK.kd.ker.frame hf2.drew (fun _ _=>id)) f false;simp only [Bool.false_eq_true,if_false,hhk,jf,KCap.val] at hrun hrun2;have hta:=ir (.agg #[.int .i64 b,.int .i64 n,.int .i64 mc]);go_upto_region 0 with fail
  go_cut [4,5] (fun v4 v5 wx=>v5=.bool true/\v4=.pointer (some ⟨wr.heap.size,0,none⟩)/\Fr wr wx (fun _=>False)/\wx.heap[wr.heap.size]?=some (.cells #[.int .i64 b,.int .i64 n,.int .i64 mc] 76 (0,0)))
  case first=>
   go_region_held3 (fun w'=>w'.cell? ⟨wb,0,none⟩=some (.pointer (some ⟨kb,0,none⟩))/\w'.cell? ⟨kb,1024,none⟩=some (.map (some V'.hb))/\w'.cell? ⟨sb,0,none⟩=some (.int .i64 f.node)/\w'.cell? ⟨sb,1,none⟩=some (.int .i64 f.index)) (go_keep) (fail)
   all_goals go_wp2
   all_goals go_meet
   all_goals exact ⟨rfl,rfl,((Fr.refl _ _).alloc _).drew,heap_alloc_new _ _⟩
  case rest=>
  obtain ⟨rfl,rfl,hf3,hbx⟩:=hcut;obtain ⟨W3,hWW⟩:∃W3,W3=wc:=⟨wc,rfl⟩;subst hWW;clear hrun hrun2 hta c0 c1 s0 s1 hf2;have hF3:Fr W1 W3 (fun k=>V.fd kb k\/k=d+1\/k=ub\/k=rb):=hF.step hf3 (fun _=>False.elim);have hK3:=hK.frame hf3 (fun _ _=>id) (fun _=>False.elim);have x0:=aa (o:=0) hbx rfl;have x1:=aa (o:=1) hbx rfl;have x2:=aa (o:=2) hbx rfl;by_cases hz:mc=0
  ·have hfin:Hid (y=(mc,bs',true)):=by
    show _=_;rw [<- hL];cases gk with
    | zero=>rfl
    | succ k=>simp [ao,low,hz]
   subst hz;clear hE hL hbx hdd;go_wp2;refine bodyPost_ret (v:=.tuple #[]) (by simp [results,Tryz.results96,go_sem]) rfl ⟨⟨_,rfl⟩,?_⟩;rw [hfin.out];obtain ⟨v,hv⟩:=hRB;exact ⟨⟨V',hK3,hsub⟩,hF3,hTB.frame hf3 id id,hf3.same ho2 id,v,hf3.same hv id,fun h=>by cases h⟩
  ·have hmpos:0<mc:=by omega
   obtain ⟨lo,hlo⟩:∃lo,lo=max (mc-16) 0:=⟨_,rfl⟩;have hlo0:0<=lo:=by omega
   have hlo1:lo<mc:=by omega
   have Hlo:Hid (dwn mc=lo):=hlo.symm;have hw1:IntKind.i64.wrap (mc-16)=mc-16:=by rw [IntKind.wrap_i64];omega
   have hw2:IntKind.i64.wrap (b+lo)=b+lo:=by rw [IntKind.wrap_i64];omega
   have hw3:IntKind.i64.wrap (b+mc)=b+mc:=by rw [IntKind.wrap_i64];omega
   have hmx:=b00 (mc-16) 0;rw [<- hlo] at hmx;obtain ⟨oN,hoN⟩:=Int.eq_ofNat_of_zero_le (show 0<=b+lo by omega);obtain ⟨cN,hcN⟩:∃cN:Nat,mc-lo=(cN:Int)+1:=⟨(mc-lo-1).toNat,by omega⟩;obtain ⟨cells,hcells,hcc⟩:=hK3.kd.ker.blk;have hsl:∀W,(Instr.sliceAt 66 (.pointer (some ⟨kb,0,none⟩)) (some (.int .i64 (b+lo))) (some (.int .i64 (b+mc))) none).run Tryz.prog W=.ok (.slice (some ⟨kb,oN,none⟩) (cN+1) (1024-oN)) W:=fun W=>by
    rw [run_sliceAt_array_lh (P:=Tryz.prog) W 66 ⟨kb,0,none⟩ (by kernel_rfl) .i64 .i64 (b+lo) (b+mc) (by omega) (by omega) (by rw [show Tryz.prog.arrayLen 66=1024 by kernel_rfl];omega)];rw [show (sizeOf (Tryz.prog.elem 66)).run Tryz.prog W=.ok 1 W by kernel_rfl,show Tryz.prog.arrayLen 66=1024 by kernel_rfl];have e1:(b+lo).toNat=oN:=by omega
    have e2:(b+mc).toNat-oN=cN+1:=by omega
    have e3:¬1024=oN:=by omega
    simp only [Result.andThen,slicedAt,e1,e2,if_neg e3,Nat.mul_one,Addr.add_lit,Nat.zero_add]
   have hcl:=fun ty cap=>ah4 (P:=Tryz.prog) (w:=W3.drew) 183 65 Tryz.underlying183 (fun w=>by kernel_rfl) cN kb oN cells.toList 69 (show W3.drew.heap[kb]?=_ by rw [Array.toArray_toList];exact hcells) (by rw [Array.length_toList,hcc.size];omega) ty cap
   have hK3d:=hK3.frame ((Fr.refl W3 (fun _=>False)).drew) (fun _ _=>id) (fun _=>False.elim);have hK4:=hK3d.kd.ker.putW hcells oN (cN+1) (by omega) hoN (show mc-lo=((cN+1:Nat):Int) by omega);have hf4:Fr W3 _ (fun k=>k=kb):=((Fr.refl W3 (fun k=>k=kb)).drew).step (Fr.setRow W3.drew kb (laid cells.toList oN (List.replicate (cN+1) (.int .u32 0))).toArray) (fun k e=>.inl e);generalize W3.drew.setRow kb (laid cells.toList oN (List.replicate (cN+1) (.int .u32 0))).toArray=W4 at hcl hK4 hf4;have hkw:wb≠kb:=fun e=>hwb (.inl (.inl e))
   have hks:sb≠kb:=fun e=>hsb (.inl (.inl e))
   have l1':kb<wr.heap.size:=l1;have l0':wb<wr.heap.size:=l0;have l2':sb<wr.heap.size:=l2;have hkx:¬wr.heap.size=kb:=by omega
   have hbw4:=hf4.same (hf3.same hbw id) hkw;have hbs4:=hf4.same (hf3.same hbs id) hks;have hbx4:=hf4.same hbx hkx;have c0:=aa (o:=0) (hf3.same hbw id) rfl;have d0:=aa (o:=0) hbw4 rfl;have y0:=aa (o:=0) hbx4 rfl;have y1:=aa (o:=1) hbx4 rfl;have y2:=aa (o:=2) hbx4 rfl;clear hlo hcells hcc hoN hcN hK3d;obtain ⟨n1,hn1⟩:∃n1,gk=n1+1:=by
    cases gk with
    | zero=>exact absurd hE (by simp [xx,low];omega)
    | succ n1=>exact ⟨n1,rfl⟩
   have hE2:xx dwn low n1 lo:=by rw [<- Hlo.out];rw [hn1] at hE;exact hE.resolve_left (by simp [low];omega)
   have hL2:y=if (ar bs').1 then (lo,(ar bs').2,false) else ao dwn low n1 lo (ar bs').2:=by rw [<- hL,hn1,am7 (by simp [low];omega),Hlo.out]
   have Hn:Hid (gk=n1+1):=hn1;clear hE hL hn1;go_upto_region 3 with fail
   go_cut [42] (fun _ wx=>wx=W4)
   case first=>
    go_region_held3 (fun w'=>w'.cell? ⟨wb,0,none⟩=some (.pointer (some ⟨kb,0,none⟩))/\w'.cell? ⟨wr.heap.size,0,none⟩=some (.int .i64 b)/\w'.cell? ⟨wr.heap.size,2,none⟩=some (.int .i64 mc)) (go_keep) (fail)
    all_goals go_wp2
    all_goals go_meet
    all_goals exact rfl
   case rest=>
   have hcut2:=hcut.symm;subst hcut2;clear hcl hsl c0 x0 x1 x2 hw1 hw2 hw3 hmx hbx hK3;have hfx:=Fr.set1 W4 wr.heap.size 2 (.int .i64 lo);have hbx5:=ak W4 wr.heap.size 2 (.int .i64 lo) hbx4;simp at hbx5;have z2:=ab (o:=2) hbx4;go_upto_region 5 with fail
   generalize W4.setCell ⟨wr.heap.size,2,none⟩ (.int .i64 lo)=W5 at *
   have hnx:∀k,V'.fd kb k->k≠wr.heap.size:=fun k hk e=>by have:=hK.lt hk;omega
   have hK5:aq W5 kb {V' with ws:=ou V'.ws (b+lo) (mc-lo)}:=hK4.frame hfx (fun k hk e=>hnx k (.inl hk) e)
   have hF5:Fr W3 W5 (fun k=>k=kb\/k=wr.heap.size):=(hf4.mono (fun _ e=>.inl e)).step hfx (fun k e=>.inl (.inr e))
   have hbw5:=hfx.same hbw4 (by omega);have hbs5:=hfx.same hbs4 (by omega);have hd5:W5.ownsRow 0 116 2 V'.dv D.length (ez D):=hF5.owns (hf3.owns hK.kd.d (fun _ _=>id)) (fun k hk e=>by
    rcases e with e | e
    ·exact hK.kd.ap k hk (.inl e)
    ·exact hnx k (.inr hk) e)
   clear d0 y0 y1 y2 hbx4 hbw4 hbs4 hfx hK4 z2;have w0:=aa (o:=0) hbw5 rfl;have t0:=aa (o:=0) hbs5 rfl;have t1:=aa (o:=1) hbs5 rfl;have y0:=aa (o:=0) hbx5 rfl;have y1:=aa (o:=1) hbx5 rfl;have y2:=aa (o:=2) hbx5 rfl;have k0:=hK5.ch;have dd5:=(Fr.refl W5 (fun _=>False)).drew;obtain ⟨W6,hrun,hm6,hf6,hs6⟩:=(hK5.frame dd5 (fun _ _=>id)).held.put_run (P:=Tryz.prog) em Tryz.underlying59 f (.untyped b n lo);simp only [Slot.val,KCap.val] at hrun;have hK6:=(hK5.frame dd5 (fun _ _=>id)).putH hm6 hf6;go_cut [51] (fun _ wx=>wx=W6)
   case first=>
    go_region_law (fail)
    all_goals
     go_wp2;go_meet;case rel=>rfl
   case rest=>
   have hcut3:=hcut.symm;subst hcut3;clear hrun w0 t0 t1 y0 y1 y2 k0;have hF6:Fr wr W6 (fun k=>k=kb\/k=wr.heap.size\/k=V'.hb):=((hf3.mono (fun _=>False.elim)).step (hF5.step dd5 (fun _=>False.elim)) (fun k e=>by rcases e with e | e;exact .inl (.inl e);exact .inl (.inr (.inl e)))).step hf6 (fun k e=>.inl (.inr (.inr e)))
   have hfdk:V'.fd kb kb:=.inl (.inl rfl);have hfdh:V'.fd kb V'.hb:=.inl (.inr (.inl rfl));have hG6:s_ W6 kb ⟨ed K f b n m lo,D⟩ {V' with ws:=ou V'.ws (b+lo) (mc-lo),H:=putM f (.untyped b n lo) V'.H}:=by
    refine ⟨⟨hK6,?_,hf6.owns (dd5.owns hd5 (fun _ _=>id)) (fun k hk e=>hK.kd.ap k hk (by rw [e];exact .inr (.inl rfl))),hK.kd.ap⟩,hK.gl.far hF6 (fun k e=>?_),hK.ge⟩
    ·rw [<- a71 (K:=K) (f:=f) (b:=b) (n:=n) (m:=m) (mc:=mc) (lo:=lo) (by omega) hle];have e1:=hK.kd.eq;simp only at e1;rw [<- e1];simp only [ah.ker,ju]
    ·rcases e with e | e | e
     ·rw [e];exact hK.ge _ hfdk
     ·have:=hK.gl.lt;omega
     ·rw [e];exact hK.ge _ hfdh
   have hFW:Fr W1 W6 (fun k=>V.fd kb k\/k=d+1\/k=ub\/k=rb):=hF.step hF6 (fun k e=>by
    rcases e with e | e | e
    ·rw [e];exact (hsub kb hfdk).imp (fun h=>.inl h) id
    ·exact .inr (by have:=hF.size;omega)
    ·rw [e];exact (hsub V'.hb hfdh).imp (fun h=>.inl h) id)
   have hlen1:=hF.size;have hn6:∀k,¬V.fd kb k->k<W1.heap.size->¬(k=kb\/k=wr.heap.size\/k=V'.hb):=by
    rintro k h1 h2 (e | e | e)
    ·exact (hsub kb hfdk).elim (fun e1=>h1 (e▸e1)) (fun e1=>by omega)
    ·omega
    ·exact (hsub V'.hb hfdh).elim (fun e1=>h1 (e▸e1)) (fun e1=>by omega)
   have hd6:W6.heap[d]?=some o1:=hF6.same (hF.same hd nd) (hn6 d hdn (by omega));have hl6:W6.heap[d+1]?=some o2:=hF6.same ho2 (hn6 (d+1) hdn1 hlt1);have hT6:=hTB.frame hF6 (hn6 ub hA.nub hul) (hn6 g0 hA.ng0 hA.gl);obtain ⟨v,hv⟩:=hRB;have hv6:=hF6.same hv (hn6 rb hA.nrb (by omega));have key:YieldAt Fence.wide 0 Tryz.prog (d+1) #[] W6 fun e W'=>e=.returned (.bool (!(ar bs').1))/\
    ((ar bs').1=false->∃V2,b85 W1 kb ub rb g0 d c av tv th root V K D f b n m y o2 n1 W' lo V2 (ar bs').2)/\((ar bs').1=true->b82 W1 kb ub rb g0 d c av tv th root V K D f b n m y o2 o3 W'):=by
    refine YieldAt.mono (hgo W6 ⟨hFW,⟨_,hT6⟩,v,hv6⟩ hd6 hl6) ?_;rintro e W7 ⟨bb,Wb,Wc,he,hfb,⟨hfp,hpb⟩,hfc,ho7⟩;obtain ⟨q1,q2,v3,q3,q4⟩:=hpb _ (hT6.frame hfb (fun e=>hA.ud.2 e) (fun e=>hA.gd e));have hTc:=q2.frame hfc (fun e=>hA.ud.2 e) (fun e=>hA.gd e);have hvc:=hfc.same q3 (fun e=>by omega);have hfall:Fr W6 W7 (fun k=>k=d+1\/k=ub\/k=rb):=((hfb.mono (fun k hk=>.inl hk)).step hfp (fun k hk=>.inl (.inr hk))).step hfc (fun k hk=>.inl (.inl hk))
    have hK7:=hG6.frame hfall (fun k hk e=>by
     rcases hsub k hk with e1 | e1
     ·rcases e with e | e | e
      ·exact hA.nd1 (e▸e1)
      ·exact hA.nub (e▸e1)
      ·exact hA.nrb (e▸e1)
     ·rcases e with e | e | e<;>omega) (fun k e=>by have:=hA.two;rcases e with e | e | e<;>omega)
    have hF7:=hFW.step hfall (fun k hk=>.inl (.inr hk))
    refine ⟨by rw [he,q1];simp,fun hp=>?_,fun hp=>?_⟩
    ·have hbt:bb=true:=by rw [hp] at q1;cases bb with | true=>rfl | false=>cases q1
     subst hbt;rw [hp] at hL2;exact ⟨_,hK7,hlo0,by omega,hE2,by rw [hL2];rfl,hF7,hsub,ho7,hTc,v3,hvc⟩
    ·have hbf:bb=false:=by rw [hp] at q1;cases bb with | false=>rfl | true=>cases q1
     subst hbf;rw [hp,if_pos rfl] at hL2;rw [hL2];exact ⟨⟨_,hK7,hsub⟩,hF7,hTc,ho7,v3,hvc,fun _=>q4 rfl⟩
   obtain ⟨fn,tmps,assign,body,hy,hR⟩:=key;clear hK6 hm6 hf6 hs6 hK5 hF5 hd5 hG6 hFW hgo hF6 hK hF hsub ho2 hd6 hl6 hn6 hnx dd5 hbw5 hbs5 hbx5 hTB hT6 hv6 hv hL2;cases hp:(ar bs').1 with
   | false=>
    rw [hp] at hR;go_upto_region 6 with fail
    refine (wpIn_wide (n:=1)).1 ?_;gi_wp2_with ((try refine ⟨hdd _,?_⟩);refine hR.mono ?_;clear hR;rintro e W7 ⟨rfl,hI7,_⟩)
    obtain ⟨V7,hI7⟩:=hI7 trivial;go_wp2;go_roundg n1
    case measure=>have:=Hn.out;omega
    case rel=>exact ⟨lo,V7,_,hI7⟩
   | true=>
    rw [hp] at hR;go_upto_region 6 with fail
    refine (wpIn_wide (n:=1)).1 ?_;gi_wp2_with ((try refine ⟨hdd _,?_⟩);refine hR.mono ?_;clear hR;rintro e W7 ⟨rfl,_,hI7⟩)
    have hI7:=hI7 trivial;go_wp2;exact bodyPost_ret (v:=.tuple #[]) (by simp [results,Tryz.results96,go_sem]) rfl ⟨⟨_,rfl⟩,hI7⟩
theorem ap5 {kb ub wb sb g0:Nat}{c:Cl}{av tv:Value}{th root:Int}{S:KS}{V:ah}{f:Slot}{b n m:Int}{bs:List Bool}{w:World}(h:s_ w kb S V)(hg:cm S)(hk:S.K.held f=some (.untyped b n m))(hT:TB w ub kb g0 c av tv th root bs)(hA:Apt w kb ub g0 V)
 (hb:w.heap[wb]?=some (.cells #[.pointer (some ⟨kb,0,none⟩)] 34 (0,0))) (hs:w.heap[sb]?=some (.cells #[.int .i64 f.node,.int .i64 f.index] 71 (0,0))) (hwb:¬V.fd kb wb) (hsb:¬V.fd kb sb) (hwu:wb≠ub) (hsu:sb≠ub) :
 Calls Tryz.prog 57 #[.pointer (some ⟨ub,0,none⟩),.func (.func 96) #[] #[.pointer (some ⟨wb,0,none⟩),.pointer (some ⟨sb,0,none⟩)]] w fun e w'=>
  e=.returned (.int .i64 (if (b_ m bs).2.2 then 0 else 8))/\fc w kb ub g0 c av tv th root V ⟨ed S.K f b n m (b_ m bs).1,S.D⟩ (b_ m bs).2.1 w':=by
 have hwlt:wb<w.heap.size:=(Array.getElem?_eq_some_iff.1 hb).1;have hslt:sb<w.heap.size:=(Array.getElem?_eq_some_iff.1 hs).1;have hul:=hT.lt;have h2:=h.gl.lt;have hgl:=hA.gl;obtain ⟨u1,u2,u3,u4,u5,u6,u7⟩:=hg.untyped hk;have hn:∀k,w.heap.size<=k->¬V.fd kb k:=fun k hk e=>by have:=h.lt e;omega
 generalize hy:b_ m bs=y;refine (ag5 96 #[.pointer (some ⟨wb,0,none⟩),.pointer (some ⟨sb,0,none⟩)] ub kb g0 c av tv th root bs w (V.fd kb)
  (fun W1 b' W'=>b'=y.2.2/\∃V',s_ W' kb ⟨ed S.K f b n m y.1,S.D⟩ V'/\Fr w W' (fun k=>V.fd kb k\/k=ub)/\(∀k,V'.fd kb k->V.fd kb k\/W1.heap.size<=k)/\TB W' ub kb g0 c av tv th root y.2.1) bz0 hT hA.gu hA.gl (fun k hk=>h.lt hk) ?_ ?_).mono ?_
 ·intro d rb o1 o2 o3 W1 hf1 hwr hrd hd hl hrb hgo;have hs1:=hf1.size;have hdl:d+1<W1.heap.size:=(Array.getElem?_eq_some_iff.1 hl).1;rw [show (#[.func (.yield (d+1)) #[] #[]]++#[.pointer (some ⟨wb,0,none⟩),.pointer (some ⟨sb,0,none⟩)]:Array Value)=#[.func (.yield (d+1)) #[] #[],.pointer (some ⟨wb,0,none⟩),.pointer (some ⟨sb,0,none⟩)] from rfl];have hfar:∀x,¬V.fd kb x->x<w.heap.size->x≠ub->Far W1 kb ub rb g0 d x V:=fun x h1 h2 h3=>⟨hA.u,hA.g,hn _ hwr,hn _ (by omega),hn _ (by omega),h1,by omega,by omega,hrd,hdl,by omega,by omega,h3,by omega,⟨by omega,by omega⟩,by omega,by omega,hA.gu,by omega,⟨by omega,hA.u2,by omega⟩⟩
  refine (a83 kb wb sb ub rb g0 d c av tv th root bs o1 o2 o3 S.K S.D f b n m V W1 (h.frame hf1 (fun _ _=>id) (fun _=>False.elim)) hk u1 u3 u7 (hf1.same hb id) (hf1.same hs id) (hfar wb hwb hwlt hwu) (hfar sb hsb hslt hsu) (hT.frame hf1 id id) hd hl hrb hgo).mono ?_;rintro e W' ⟨he,hE⟩;rw [hy] at hE;obtain ⟨⟨V',hk,hs⟩,hfr,htb,ho,v,hv,h8⟩:=hE;refine ⟨he,hfr,y.2.2,v,ho,hv,h8,rfl,V',hk,(hf1.mono (fun _=>False.elim)).step hfr (fun k hk=>?_),hs,htb⟩;rcases hk with e | e | e | e
  ·exact .inl (.inl e)
  ·exact .inr (by omega)
  ·exact .inl (.inr e)
  ·exact .inr (by omega)
 ·rintro W1 b' W W' ⟨hb',V',hk,hf,hs,ht⟩ hfr;refine ⟨hb',V',hk.frame hfr (fun k hk e=>?_) (fun k e=>by omega),hf.step hfr (fun k e=>.inr e.1),hs,ht.frame hfr (fun e=>by omega) (fun e=>by omega)⟩;rcases hs k hk with e1 | e1
  ·have:=h.lt e1;omega
  ·omega
 ·rintro e w' ⟨b',W1,he,hf1,rfl,V',hk,hf,hs,ht⟩;exact ⟨he,V',hk,hf,fun k hk=>(hs k hk).imp id (fun e=>Nat.le_trans hf1.size e),ht⟩
def bp_ (w:World)(kb ub g0:Nat)(c:Cl)(av tv:Value)(th root:Int)(V:ah)(r:Int×KS)(e:Ending)(w':World):Prop:=(e=.returned (.tuple #[.int .i64 0,.int .i64 r.1])\/e=gup r.1)/\∃bs,fc w kb ub g0 c av tv th root V r.2 bs w'
def ah_ (y:KS×List Bool×Bool)(root:Int)(c:Cl):Int×KS:=if y.2.2 then yu y.1 (jh y.1 root c y.2.1) else (8,y.1)
theorem mj.bout {w w':World}{kb ub g0:Nat}{S S':KS}{V:ah}{c:Cl}{av tv:Value}{th root:Int}{bs:List Bool}(h:mj w kb ub g0 S V c av tv th root bs)(ho:fg w kb V S' w'):fc w kb ub g0 c av tv th root V S' bs w':=by
 obtain ⟨V',k,f,s⟩:=ho;exact ⟨V',k,f.mono (fun _=>.inl),s,h.tb.frame f h.apt.u h.apt.g⟩
def b71 (w:World)(kb ub g0:Nat)(c:Cl)(av tv:Value)(th root:Int)(V:ah)(S:KS)(bs:List Bool)(B gb cnt:Nat)(row:List Value)(W:World):Prop:=
 ∃V',mj W kb ub g0 S V' c av tv th root bs/\Fr w W (fun k=>V.fd kb k\/k=ub)/\(∀k,V'.fd kb k->V.fd kb k\/w.heap.size<=k)/\W.ownsRow B 71 2 (.slice (some ⟨gb,0,none⟩) cnt cnt) cnt row/\¬V'.fd kb gb
theorem ax6 (kb ub g0:Nat)(S:KS)(V0:ah)(c:Cl)(av tv:Value)(th root:Int)(bs:List Bool)(w0:World)(h0:mj w0 kb ub g0 S V0 c av tv th root bs):
 Calls Tryz.prog 34 #[.pointer (some ⟨ub,0,none⟩)] w0 (bp_ w0 kb ub g0 c av tv th root V0 (ah_ (ao bh bz F0 S bs) root c)):=by
 have hult:=h0.tb.lt;obtain ⟨A0,cap0,hturn0,_⟩:=id h0.tb;have ck':=hturn0.ck;have hgood:cm (ao bh bz F0 S bs).1:=by obtain ⟨S',hA⟩:=h0.good;exact ⟨_,(Ag.work F0 bs hA).2⟩
 have hpo:=h0.polled ((Fr.refl w0 (fun _=>False)).alloc (.cells #[.pointer (some ⟨kb,0,none⟩)] 34)) (Nat.le_refl _) (heap_alloc_new _ _);generalize ao bh bz F0 S bs=y at hpo hgood ⊢;obtain ⟨S1,bs1,go⟩:=y;dsimp only at hpo hgood;obtain ⟨ans,hans⟩:∃ans,Hid (ah_ (S1,bs1,go) root c=ans):=⟨_,rfl⟩;rw [hans.out];cases go with
 | false=>
  have ha:ans=(8,S1):=hans.out.symm;subst ha;clear hans;go_enter Tryz.func34,Tryz.ntmps34
  go_wp2_with (first
   |(go_at_call 58;refine (pq kb _).mono ?_;rintro e w' ⟨rfl,rfl⟩)
   |(go_at_call 57;refine hpo.mono ?_;rintro e w ⟨rfl,V,hG,hF0,hs0,_⟩))
  go_ret2;exact ⟨.inl rfl,bs1,V,hG.kd,hF0,fun k hk=>(hs0 k hk).imp id (fun e=>by simp at e;omega),hG.tb⟩
 | true=>
 have HA:Hid (yu S1 (jh S1 root c bs1)=ans):=hans.out;clear hans;go_enter Tryz.func34,Tryz.ntmps34
 go_wp2_with (first
  |(go_at_call 58;refine (pq kb _).mono ?_;rintro e w' ⟨rfl,rfl⟩)
  |(go_at_call 57;refine hpo.mono ?_;rintro e w ⟨rfl,V,hG,hF0,hs0,_⟩;obtain ⟨A1,cap1,hu1,_⟩:=id hG.tb;have cat1:=hu1.cat))
 have hs1:∀k,V.fd kb k->V0.fd kb k\/w0.heap.size<=k:=fun k hk=>(hs0 k hk).imp id (fun e=>by simp at e;omega)
 have hgot2:∀x S2 bs2 W,fc w kb ub g0 c av tv th root V S2 bs2 W->ans=(x,S2)->bp_ w0 kb ub g0 c av tv th root V0 ans (.returned (.tuple #[.int .i64 0,.int .i64 x])) W:=fun x S2 bs2 W ho e=>by subst e;exact ⟨.inl rfl,bs2,fc.then hF0 hs1 ho⟩
 have hgot:∀x S2 W,fg w kb V S2 W->ans=(x,S2)->bp_ w0 kb ub g0 c av tv th root V0 ans (.returned (.tuple #[.int .i64 0,.int .i64 x])) W:=fun x S2 W ho e=>hgot2 x S2 bs1 W (hG.bout ho) e
 have hgup:∀W,fg w kb V S1 W->ans=(2,S1)->bp_ w0 kb ub g0 c av tv th root V0 ans (gup 2) W:=fun W ho e=>by subst e;exact ⟨.inr rfl,bs1,fc.then hF0 hs1 (hG.bout ho)⟩
 have hstay:∀W,Fr w W (fun _=>False)->fg w kb V S1 W:=fun W hW=>hG.kd.stay hW
 have hg:ev w:=hG.kd.gl;have hok:ap1 V.ker:=by rw [hG.kd.kd.eq];exact hgood.retypeOk
 have hV:V.ker=S1.K:=hG.kd.kd.eq;obtain ⟨bv,h⟩:=hG.call;have HV:Hid (V.ker=S1.K):=hV;clear hpo h0 hF0 hs0 hs1 hV ck' hturn0;refine h.find.mono ?_;rintro e W2 ⟨rfl,hF2⟩;clear cat1;cases hfi:az V.ker root c.at_ with
 | none=>
  have ha:Hid (ans=(2,S1)):=by show _=_;rw [<- HA.out];rw [HV.out] at hfi;simp [jh,hfi,yu]
  clear HA;unfold bd gup;go_wp2;exact ⟨rfl,hgup _ (hstay _ hF2) ha.out⟩
 | some f=>
  unfold bd jx;go_wp2_with fail
  generalize hW3:W2.alloc _=W3;have hf3:Fr W2 W3 (fun _=>False):=by rw [<- hW3];exact (Fr.refl _ _).alloc _
  have hbf:W3.heap[W2.heap.size]?=some (.cells #[.int .i64 f.node,.int .i64 f.index] 71 (0,0)):=by rw [<- hW3];exact heap_alloc_new _ _
  clear hW3;have hF3:=hF2.step hf3 (fun _=>False.elim);have l2:=hF2.size;have l3:W2.heap.size<W3.heap.size:=(Array.getElem?_eq_some_iff.1 hbf).1;have h3:=h.frame hF3;have c2:=h3.ker.ch;have s0:=aa (o:=0) hbf rfl;have s1:=aa (o:=1) hbf rfl;have hrun:=be (h3.ker.frame ((Fr.refl W3 (fun _=>False)).drew) (fun _ _=>id)) f false;have hfa:=(Fr.refl W3 (fun _=>False)).alloc (.cells #[.int .i64 0,.int .i64 0,.int .i64 0] 76);have hrun2:=be (h3.ker.frame hfa.drew (fun _ _=>id)) f false;simp only [Bool.false_eq_true,if_false] at hrun hrun2;have lk:=World.block_lt_of_cell? _ _ c2;obtain ⟨tf,x0,x1,x2,hta,hcase⟩:∃(tf:Bool) (x0 x1 x2:Int),(∀W,(Instr.typeAssert (jf (V.ker.held f)) 79 76 true).run Tryz.prog W=.ok (.tuple #[.agg #[.int .i64 x0,.int .i64 x1,.int .i64 x2],.bool tf]) W)/\
   ((tf=true/\V.ker.held f=some (.untyped x0 x1 x2))\/(tf=false/\∀b n m,V.ker.held f≠some (.untyped b n m))):=by
   cases hh:V.ker.held f with
   | none=>exact ⟨false,0,0,0,al8,.inr ⟨rfl,fun _ _ _ e=>by cases e⟩⟩
   | some k=>
    cases hu:k.isU with
    | true=>
     cases k with
     | untyped b n m=>exact ⟨true,b,n,m,ir _,.inl ⟨rfl,rfl⟩⟩
     | _=>cases hu
    | false=>exact ⟨false,0,0,0,vm hu,.inr ⟨rfl,fun b n m e=>by cases e;cases hu⟩⟩
  generalize jf (V.ker.held f)=hv at hrun hrun2 hta;go_cut [7,8] (fun v7 v8 wx=>v8=.bool tf/\∃xb,v7=.pointer (some ⟨xb,0,none⟩)/\Fr W3 wx (fun _=>False)/\W3.heap.size<=xb/\wx.heap[xb]?=some (.cells #[.int .i64 x0,.int .i64 x1,.int .i64 x2] 76 (0,0)))
  case first=>
   go_region_held3 (fun w'=>w'.cell? ⟨kb,1024,none⟩=some (.map (some V.hb))/\w'.cell? ⟨W2.heap.size,0,none⟩=some (.int .i64 f.node)/\w'.cell? ⟨W2.heap.size,1,none⟩=some (.int .i64 f.index)) (go_keep) (fail)
   all_goals go_wp2
   all_goals go_meet
   all_goals exact ⟨rfl,W3.heap.size,rfl,((Fr.refl _ _).alloc _).drew,Nat.le_refl _,heap_alloc_new _ _⟩
  case rest=>
   obtain ⟨rfl,xb,rfl,hf4,_,_⟩:=hcut;clear hrun hrun2 hta c2 s0 s1 hfa lk h3;have hF4:=hF3.step hf4 (fun _=>False.elim);have hbf4:=hf4.same hbf id;have h4:=h.frame hF4;rcases hcase with ⟨rfl,hk⟩ | ⟨rfl,hk⟩
   ·have hg4:ev wc:=hg.fr0 hF4;have t4:=h4.turn.cty;have t5:=h4.turn.cbits;have t6:=h4.turn.ccount;have hio:∀W,ev W->Calls Tryz.prog 60 #[.int .i64 c.ty,.int .i64 c.bits] W fun e w'=>e=.returned (.bool (jo c.ty c.bits))/\w'=W:=fun W hW=>at6 c.ty c.bits W hW
    go_upto_region 9 with fail
    go_cut [69] (fun v69 wx=>v69=.bool (!decide (jo c.ty c.bits=true/\1<=c.count/\c.count<=8))/\Fr wc wx (fun _=>False))
    case first=>
     cases hob:jo c.ty c.bits with
     | false=>
      simp only [hob] at hio;go_quiet ((go_at_call 60;exact sm (hio _ (by exact ⟨hg4.n0,hg4.n1,hg4.bits⟩))))
      all_goals go_wp2
      all_goals go_meet
      all_goals exact ⟨by simp [hob],(Fr.refl _ _).drewN _⟩
     | true=>
      simp only [hob] at hio;by_cases hc1:c.count<1
      ·have hc2:decide (c.count<1)=true:=decide_eq_true hc1;go_quiet ((go_at_call 60;exact sm (hio _ (by exact ⟨hg4.n0,hg4.n1,hg4.bits⟩))))
       all_goals go_wp2
       all_goals go_meet
       all_goals exact ⟨by simp [hob];omega,(Fr.refl _ _).drewN _⟩
      ·have hc2:decide (c.count<1)=false:=decide_eq_false hc1;by_cases hc3:8<c.count
       ·have hc4:decide (8<c.count)=true:=decide_eq_true hc3;go_quiet ((go_at_call 60;exact sm (hio _ (by exact ⟨hg4.n0,hg4.n1,hg4.bits⟩))))
        all_goals go_wp2
        all_goals go_meet
        all_goals exact ⟨by simp [hob];omega,(Fr.refl _ _).drewN _⟩
       ·have hc4:decide (8<c.count)=false:=decide_eq_false hc3;go_quiet ((go_at_call 60;exact sm (hio _ (by exact ⟨hg4.n0,hg4.n1,hg4.bits⟩))))
        all_goals go_wp2
        all_goals go_meet
        all_goals exact ⟨by simp [hob];omega,(Fr.refl _ _).drewN _⟩
    case rest=>
     obtain ⟨rfl,hf5⟩:=hcut;have hF5:=hF4.step hf5 (fun _=>False.elim);have hbf5:=hf5.same hbf4 id;have h5:=h.frame hF5;clear t4 t5 t6 hio hg4 h4;by_cases hgood2:jo c.ty c.bits=true/\1<=c.count/\c.count<=8
     ·have hdec:(!decide (jo c.ty c.bits=true/\1<=c.count/\c.count<=8))=false:=by rw [decide_eq_true hgood2];rfl
      rw [hdec];clear hdec;obtain ⟨hob,hc1,hc8⟩:=hgood2;obtain ⟨cnt,hcnt⟩:=Int.eq_ofNat_of_zero_le (show 0<=c.count by omega);have hn1:1<=cnt:=by omega
      have hn8:cnt<=8:=by omega
      have hix:∀t,az V.ker root c.to=some t->t.index<=1000000:=fun t ht=>by
       have h1:=bt1 ht;simp [okK] at h1;have:=hok.slots t.node;omega
      have Hans:Hid (ans=(match ah2 V.ker root c.to cnt with
       | none=>(2,S1)
       | some (_,false)=>(4,S1)
       | some (t,true)=>if c_ S1.K f then si S1 f t c.ty c.bits root x0 x1 x2 cnt else if (b_ x2 bs1).2.2 then si {S1 with K:=ed S1.K f x0 x1 x2 (b_ x2 bs1).1} f t c.ty c.bits root x0 x1 (b_ x2 bs1).1 cnt else (8,{S1 with K:=ed S1.K f x0 x1 x2 (b_ x2 bs1).1}))):=by
       show _=_;rw [<- HA.out];rw [HV.out] at hfi hk ⊢;unfold jh;rw [hfi];dsimp only;rw [hk];dsimp only;rw [if_pos ⟨hob,hc1,hc8⟩,hcnt,Int.toNat_natCast];rcases ah2 S1.K root c.to cnt with _ | ⟨s,_ | _⟩
       ·rfl
       ·rfl
       ·dsimp only;split
        ·rfl
        ·split<;>rfl
      have t3:=h5.turn.cto;have t6:=h5.turn.ccount;rw [hcnt] at t6;have hfr:=fun W (hW:de W kb ub V c av tv bv th root)=>a05 V kb ub c av tv bv th root cnt W hW hn1 hn8 hix
      have h6:=h5.frame ((Fr.refl wc (fun _=>False)).drew);have hbits:=ba1 hob;clear hob hc1 hc8 HA hix;cases hrow:ah2 V.ker root c.to cnt with
      | none=>
       have ha:Hid (ans=(2,S1)):=by show _=_;rw [Hans.out,hrow]
       clear Hans;go_upto_region 11 with fail
       go_region_with (go_at_call 61;refine (hfr _ h6).mono ?_;rintro e W7 ⟨hf7,he⟩;rw [hrow] at he;dsimp only at he;subst he;unfold gup;refine al2 (by exact ⟨rfl,hgup _ (hstay _ ((hF5.drew).step hf7 (fun _=>False.elim))) ha.out⟩) W7 ?_)
       all_goals trivial
      | some p=>
       obtain ⟨t,bb⟩:=p;cases bb with
       | false=>
        have ha:Hid (ans=(4,S1)):=by show _=_;rw [Hans.out,hrow]
        clear Hans;go_upto_region 11 with fail
        go_region_held3 (fun w'=>w'.cell? ⟨ub,3,none⟩=some tv/\w'.cell? ⟨ub,6,none⟩=some (.int .i64 (cnt:Int))) (go_keep)
         ((go_at_call 61;refine (hfr _ h6).mono ?_;rintro e W7 ⟨hf7,he⟩;rw [hrow] at he;dsimp only at he;subst he;have g1:=(h6.frame hf7).turn.cto;have g2:=(h6.frame hf7).turn.ccount;rw [hcnt] at g2))
        have hF7:=(hF5.drew).step hf7 (fun _=>False.elim);clear g1 g2 t3 t6 hfr h6;go_wp2;go_ret2;exact hgot _ _ _ (hstay _ hF7) ha.out
       | true=>
        have ha:Hid (ans=if c_ S1.K f then si S1 f t c.ty c.bits root x0 x1 x2 cnt else if (b_ x2 bs1).2.2 then si {S1 with K:=ed S1.K f x0 x1 x2 (b_ x2 bs1).1} f t c.ty c.bits root x0 x1 (b_ x2 bs1).1 cnt else (8,{S1 with K:=ed S1.K f x0 x1 x2 (b_ x2 bs1).1})):=by show _=_;rw [Hans.out,hrow]
        clear Hans;go_upto_region 11 with fail
        go_region_held3 (fun w'=>w'.cell? ⟨ub,3,none⟩=some tv/\w'.cell? ⟨ub,6,none⟩=some (.int .i64 (cnt:Int))) (go_keep)
         ((go_at_call 61;refine (hfr _ h6).mono ?_;rintro e W7 ⟨hf7,he⟩;rw [hrow] at he;dsimp only at he;obtain ⟨gb,rfl,hown⟩:=he;have g1:=(h6.frame hf7).turn.cto;have g2:=(h6.frame hf7).turn.ccount;rw [hcnt] at g2))
        have hF7:=(hF5.drew).step hf7 (fun _=>False.elim);have hbf7:=hf7.same (w:=wc.drew) hbf5 id;clear g1 g2 t3 t6 hfr h6;have hB:w.heap.size<=wc.drew.heap.size:=hF5.size;have hgb:wc.drew.heap.size<=gb:=(hown.lt gb rfl).1;have hgk:¬V.fd kb gb:=fun e=>by have:=hG.kd.lt e;omega
        have hrn:=row_ne hrow hk;have hun:=hgood.untyped (by rw [<- HV.out];exact hk);have hun6:0<=x0/\x0<=1024/\0<=x2/\x2<=1024/\0<=x1/\x1<=10:=⟨hun.1,hun.2.1,hun.2.2.1,hun.2.2.2.1,hun.2.2.2.2.1,hun.2.2.2.2.2.1⟩;have hkids9:∀x,V.ker.st f=some x->x.kids.length<=900000:=hok.kids f;have h7:=h.ker.frame hF7 (fun _ _=>id);have hd7:=(Fr.refl W7 (fun _=>False)).drew;have hch:=vz V kb f W7.drew (h7.frame hd7 (fun _ _=>id));have ct:=h7.ct;have s0:=aa (o:=0) hbf7 rfl;have s1:=aa (o:=1) hbf7 rfl;clear hrow hB hok;go_upto_region 14 with fail
        cases hkids:c_ V.ker f with
        | true=>
         rw [hkids] at hch;have hkS:c_ S1.K f=true:=by rw [<- HV.out];exact hkids
         obtain ⟨x9,K9,hx9⟩:∃x9 K9,ld V.ker f t c.ty c.bits root x0 x1 x2 cnt=(x9,K9):=⟨_,_,rfl⟩;have ha2:Hid (ans=(x9,⟨K9,S1.D⟩)):=by
          show _=_;rw [ha.out,if_pos hkS,si,<- HV.out,hx9]
         have hcv:=fun W (hW:Fr W7 W (fun _=>False))=>ai8 h (hF7.step hW (fun _=>False.elim)) hun6 hkids9 hk (fun e=>hgk (.inl e)) (hW.owns hown (fun _ _=>id)) hn1 hn8 hbits hrn hx9
         clear ha hx9 hkS;go_region_held3 (fun w'=>w'.cell? ⟨kb,1025,none⟩=some (.map (some V.tb))/\w'.cell? ⟨W2.heap.size,0,none⟩=some (.int .i64 f.node)/\w'.cell? ⟨W2.heap.size,1,none⟩=some (.int .i64 f.index)) (go_keep)
          ((go_at_call 62;refine hch.mono ?_;rintro e W9 ⟨rfl,hf9⟩;have hf9':=hd7.step hf9 (fun _=>False.elim);have g0:=(h7.frame hf9' (fun _ _=>id)).ct;have g1:=aa (o:=0) (hf9'.same hbf7 id) rfl;have g2:=aa (o:=1) (hf9'.same hbf7 id) rfl))
         clear hch ct s0 s1 g0;go_wp2_with (go_at_call 64;refine (hcv _ hf9').mono ?_;rintro e W10 ⟨rfl,hK10⟩)
         go_ret2;exact hgot _ _ _ (hG.kd.kout hK10) ha2.out
        | false=>
         rw [hkids] at hch;have hkS:c_ S1.K f=false:=by rw [<- HV.out];exact hkids
         have hkK:S1.K.held f=some (.untyped x0 x1 x2):=by rw [<- HV.out];exact hk
         have hrm:0<=(b_ x2 bs1).1/\(b_ x2 bs1).1<=x2:=sk 100 x2 bs1 hun6.2.2.1;have hgd2:=hgood.reset hkK hkS hrm.1 hrm.2;have hpr0:∀W9,Fr W7 W9 (fun _=>False)->Calls Tryz.prog 57 #[.pointer (some ⟨ub,0,none⟩),.func (.func 96) #[] #[.pointer (some ⟨W9.heap.size,0,none⟩),.pointer (some ⟨W9.heap.size+1,0,none⟩)]] ((W9.alloc (.cells #[.pointer (some ⟨kb,0,none⟩)] 34)).alloc (.cells #[.int .i64 f.node,.int .i64 f.index] 71)) fun e W10=>e=.returned (.int .i64 (if (b_ x2 bs1).2.2 then 0 else 8))/\W10.cell? ⟨W2.heap.size,0,none⟩=some (.int .i64 f.node)/\W10.cell? ⟨W2.heap.size,1,none⟩=some (.int .i64 f.index)/\W2.heap.size<W10.heap.size/\
          b71 w kb ub g0 c av tv th root V ⟨ed S1.K f x0 x1 x2 (b_ x2 bs1).1,S1.D⟩ (b_ x2 bs1).2.1 wc.drew.heap.size gb cnt (bo (ci t cnt)) W10:=by
          intro W9 hf9;obtain ⟨hfb,hsz,hb1,hb2⟩:=xr (w:=W9) (a:=.cells #[.pointer (some ⟨kb,0,none⟩)] 34) (b:=.cells #[.int .i64 f.node,.int .i64 f.index] 71) rfl;have hF8:Fr W7 ((W9.alloc (.cells #[.pointer (some ⟨kb,0,none⟩)] 34)).alloc (.cells #[.int .i64 f.node,.int .i64 f.index] 71)) (fun _=>False):=hf9.step hfb (fun _=>False.elim);have hF9:=hF7.step hF8 (fun _=>False.elim);have hG9:=hG.frame hF9;have hsz9:w.heap.size<=W9.heap.size:=(hF7.step hf9 (fun _=>False.elim)).size;have hul:=hG.tb.lt;have hbig:∀k,w.heap.size<=k->¬V.fd kb k:=fun k hk e=>by have:=hG.kd.lt e;omega
          generalize (W9.alloc (.cells #[.pointer (some ⟨kb,0,none⟩)] 34)).alloc (.cells #[.int .i64 f.node,.int .i64 f.index] 71)=W8 at *
          refine (ap5 hG9.kd hgood hkK hG9.tb hG9.apt hb1 hb2 (hbig _ hsz9) (hbig _ (by omega)) (by omega) (by omega)).mono ?_;rintro e W10 ⟨he,V10,k10,f10,s10,t10⟩;have hbf8:=f10.same (hF8.same hbf7 id) (fun e=>e.elim (hbig _ l2) (fun e=>by omega))
          have hgu:gb≠ub:=by have:=hF5.size;have:wc.drew.heap.size=wc.heap.size:=rfl;omega
          have hgk2:∀k,(Value.slice (some ⟨gb,0,none⟩) cnt cnt).ownBlock=some k->¬(V.fd kb k\/k=ub):=fun k hk e=>by
           have h1:gb=k:=by simpa [Value.ownBlock] using hk
           rw [h1] at hgk hgu;exact e.elim hgk hgu
          refine ⟨he,aa (o:=0) hbf8 rfl,aa (o:=1) hbf8 rfl,(Array.getElem?_eq_some_iff.1 hbf8).1,V10,hG9.past k10 hgd2 f10 s10 t10,(hF9.mono (fun _=>False.elim)).step f10 (fun _ e=>.inl e),fun k hk=>(s10 k hk).imp id (fun e=>Nat.le_trans hF9.size e),f10.owns (hF8.owns hown (fun _ _=>id)) hgk2,fun e=>?_⟩
          rcases s10 gb e with e1 | e1
          ·exact hgk e1
          ·have:=(hF8.owns hown (fun _ _=>id)).lt gb rfl;omega
         cases hgo2:(b_ x2 bs1).2.2 with
         | false=>
          have ha2:Hid (ans=(8,⟨ed S1.K f x0 x1 x2 (b_ x2 bs1).1,S1.D⟩)):=by
           show _=_;rw [ha.out,if_neg (by rw [hkS];simp),if_neg (by rw [hgo2];simp)]
          have hpr:=hpr0;rw [hgo2] at hpr;simp only [Bool.false_eq_true,if_false] at hpr;generalize (⟨ed S1.K f x0 x1 x2 (b_ x2 bs1).1,S1.D⟩:KS)=S9 at ha2 hpr;generalize (b_ x2 bs1).2.1=bs9 at hpr;clear ha hkS hgd2 hkK hrm hpr0 hgo2;go_region_held3 (fun w'=>w'.cell? ⟨kb,1025,none⟩=some (.map (some V.tb))/\w'.cell? ⟨W2.heap.size,0,none⟩=some (.int .i64 f.node)/\w'.cell? ⟨W2.heap.size,1,none⟩=some (.int .i64 f.index)) (go_keep)
           ((go_at_call 62;refine hch.mono ?_;rintro e W9 ⟨rfl,hf9⟩;have hf9':=hd7.step hf9 (fun _=>False.elim);have g0:=(h7.frame hf9' (fun _ _=>id)).ct;have g1:=aa (o:=0) (hf9'.same hbf7 id) rfl;have g2:=aa (o:=1) (hf9'.same hbf7 id) rfl))
          clear hch ct s0 s1 g0;go_wp2_with (first
           |(go_at_call 63;refine (as8 kb f _).mono ?_;rintro e w' ⟨rfl,rfl⟩)
           |(go_at_call 57;refine (hpr _ hf9').mono ?_;rintro e W10 ⟨rfl,g3,g4,g5,hR10⟩))
          go_ret2;obtain ⟨V10,hG10,hf10,hs10,_,_⟩:=hR10;exact hgot2 _ _ _ _ ⟨V10,hG10.kd,hf10,hs10,hG10.tb⟩ ha2.out
         | true=>
          obtain ⟨x9,K9,hx9⟩:∃x9 K9,ld (ed S1.K f x0 x1 x2 (b_ x2 bs1).1) f t c.ty c.bits root x0 x1 (b_ x2 bs1).1 cnt=(x9,K9):=⟨_,_,rfl⟩;have ha2:Hid (ans=(x9,⟨K9,S1.D⟩)):=by
           show _=_;rw [ha.out,if_neg (by rw [hkS];simp),if_pos hgo2,si,hx9]
          have hcv:∀W10,b71 w kb ub g0 c av tv th root V ⟨ed S1.K f x0 x1 x2 (b_ x2 bs1).1,S1.D⟩ (b_ x2 bs1).2.1 wc.drew.heap.size gb cnt (bo (ci t cnt)) W10->Calls Tryz.prog 64 #[.pointer (some ⟨ub,0,none⟩),.agg #[.int .i64 f.node,.int .i64 f.index],.slice (some ⟨gb,0,none⟩) cnt cnt] W10 fun e w'=>e=.returned (.int .i64 x9)/\∃bs9,fc w kb ub g0 c av tv th root V ⟨K9,S1.D⟩ bs9 w':=by
           rintro W10 ⟨V10,hG10,hf10,hs10,hown10,hgk10⟩;have hV10:V10.ker=ed S1.K f x0 x1 x2 (b_ x2 bs1).1:=hG10.kd.kd.eq;obtain ⟨bv10,hc10⟩:=hG10.call;refine (ai8 (V:=V10) (x:=x9) (K:=K9) (B:=wc.drew.heap.size) (f:=f) (t:=t) (b:=x0) (n:=x1) (m:=(b_ x2 bs1).1) hc10 (Fr.refl W10 _) ⟨hun6.1,hun6.2.1,hrm.1,by omega,hun6.2.2.2.2.1,hun6.2.2.2.2.2⟩ ?_ (by rw [hV10];simp [ed,upd]) (fun e=>hgk10 (.inl e)) hown10 hn1 hn8 hbits hrn (by rw [hV10];exact hx9)).mono ?_
           ·intro x hx;rw [hV10] at hx;exact hkids9 x (by rw [HV.out];exact hx)
           ·rintro e w' ⟨he,hK10⟩;exact ⟨he,_,fc.then hf10 hs10 (hG10.bout (hG10.kd.kout hK10))⟩
          have hpr:=hpr0;rw [hgo2] at hpr;simp only [if_true] at hpr;generalize (⟨ed S1.K f x0 x1 x2 (b_ x2 bs1).1,S1.D⟩:KS)=S9 at hcv hpr;generalize (b_ x2 bs1).2.1=bs9 at hcv hpr;clear ha hx9 hkS hgd2 hkK hrm hpr0 hgo2;go_region_held3 (fun w'=>w'.cell? ⟨kb,1025,none⟩=some (.map (some V.tb))/\w'.cell? ⟨W2.heap.size,0,none⟩=some (.int .i64 f.node)/\w'.cell? ⟨W2.heap.size,1,none⟩=some (.int .i64 f.index)) (go_keep)
           ((go_at_call 62;refine hch.mono ?_;rintro e W9 ⟨rfl,hf9⟩;have hf9':=hd7.step hf9 (fun _=>False.elim);have g0:=(h7.frame hf9' (fun _ _=>id)).ct;have g1:=aa (o:=0) (hf9'.same hbf7 id) rfl;have g2:=aa (o:=1) (hf9'.same hbf7 id) rfl))
          clear hch ct s0 s1 g0;go_wp2_with (first
           |(go_at_call 63;refine (as8 kb f _).mono ?_;rintro e w' ⟨rfl,rfl⟩)
           |(go_at_call 57;refine (hpr _ hf9').mono ?_;rintro e W10 ⟨rfl,g3,g4,g5,hR10⟩)
           |(go_at_call 64;refine (hcv _ hR10).mono ?_;rintro e W12 ⟨rfl,bs12,hK12⟩))
          go_ret2;exact hgot2 _ _ _ _ hK12 ha2.out
     ·have hdec:(!decide (jo c.ty c.bits=true/\1<=c.count/\c.count<=8))=true:=by rw [decide_eq_false hgood2];rfl
      rw [hdec];clear hdec;have ha:Hid (ans=(7,S1)):=by
       show _=_;rw [<- HA.out];rw [HV.out] at hfi hk;unfold jh;rw [hfi];dsimp only;rw [hk];dsimp only;rw [if_neg hgood2];rfl
      clear HA hgood2;go_wp2;go_ret2;exact hgot _ _ _ (hstay _ hF5) ha.out
   ·have ha:Hid (ans=(3,S1)):=by
     show _=_;rw [<- HA.out];rw [HV.out] at hfi hk;unfold jh;rw [hfi];dsimp only;cases hh:S1.K.held f with
     | none=>rfl
     | some k=>
      cases k with
      | untyped b n m=>exact absurd hh (hk b n m)
      | _=>rfl
    clear HA hk;go_wp2;go_ret2;exact hgot _ _ _ (hstay _ hF4) ha.out
def ay2 (w:World)(bv:Value)(bs:List Bool):Prop:=
 ∃A cap,bv=.slice A bs.length cap/\bs.length<=cap/\(0<bs.length->∃g o,A=some ⟨g,o,none⟩/\∀i (hi:i<bs.length),w.cell? ⟨g,o+i,none⟩=some (.bool bs[i]))
theorem ay2.none (w:World)(A:Option Addr)(cap:Nat):ay2 w (.slice A 0 cap) []:=⟨A,cap,rfl,Nat.zero_le _,fun h=>absurd h (by simp)⟩
structure ay1 (w:World)(kb:Nat)(S:KS)(V:ah)(c:Cl)(av tv bv:Value)(bs:List Bool):Prop extends CallI w kb S V c av tv where
 bi:ay2 w bv bs
 db:0<bs.length->∀k,bv.ownBlock=some k->¬V.fd kb k
theorem ay1.x {w W:World}{kb ub:Nat}{S:KS}{V:ah}{c:Cl}{av tv bv:Value}{bs:List Bool}{th root:Int}(h:ay1 w kb S V c av tv bv bs)(hF:Fr w W (fun _=>False))(hT:ef W ub kb c av tv th root bv)(hu:w.heap.size<=ub):∃g0,mj W kb ub g0 S V c av tv th root bs:=by
 have h2:=h.kd.gl.lt;have hsz:=hF.size;have hub:¬V.fd kb ub:=fun e=>by have:=h.kd.lt e;omega
 have hkd:=h.kd.frame hF (fun _ _=>id) (fun _=>False.elim);have hda:0<c.at_.length->∀k,av.ownBlock=some k->¬V.fd kb k/\k≠ub:=fun h0 k hk=>⟨h.da h0 k hk,fun e=>by have:=h.at_.ltk h0 k hk;omega⟩
 have hdt:0<c.to.length->∀k,tv.ownBlock=some k->¬V.fd kb k/\k≠ub:=fun h0 k hk=>⟨h.dt h0 k hk,fun e=>by have:=h.ti.ltk h0 k hk;omega⟩
 obtain ⟨A,cap,hbv,hcap,hA⟩:=id h.bi;by_cases h0:0<bs.length
 ·obtain ⟨g,o,rfl,hc⟩:=hA h0;have hgl:g<w.heap.size:=World.block_lt_of_cell? _ _ (hc 0 h0);have hg:¬V.fd kb g:=h.db h0 g (by rw [hbv];rfl);subst hbv;exact ⟨g,hkd,h.good,⟨_,cap,hT,hcap,fun _=>⟨o,rfl,fun i hi=>hF.cell (hc i hi) id⟩⟩,h.at_.fr hF (fun _ _=>id),h.ti.fr hF (fun _ _=>id),h.al,h.tl,h.ac,h.tc,⟨hub,hg,by omega,by omega,by omega⟩,hda,hdt⟩
 ·subst hbv;exact ⟨0,hkd,h.good,⟨_,cap,hT,hcap,fun e=>absurd e h0⟩,h.at_.fr hF (fun _ _=>id),h.ti.fr hF (fun _ _=>id),h.al,h.tl,h.ac,h.tc,⟨hub,fun e=>by have:=h.kd.ge _ e;omega,by omega,by omega,by omega⟩,hda,hdt⟩
theorem fc.uo {w w':World}{kb ub g0:Nat}{c:Cl}{av tv:Value}{th root:Int}{V:ah}{S:KS}{bs:List Bool}(h:fc w kb ub g0 c av tv th root V S bs w'):r_ w kb ub V S w':=by
 obtain ⟨V',h1,h2,h3,_⟩:=h;exact ⟨V',h1,h2,h3⟩
theorem b15 {W w':World}{kb ub g0:Nat}{c:Cl}{av tv:Value}{th root:Int}{V:ah}{r:Int×KS}{e:Ending}(h:bp_ W kb ub g0 c av tv th root V r e w'):
 ∃x y K,(e=.returned (.tuple #[.int .i64 x,.int .i64 y])\/(e=gup y/\x=0))/\r_ W kb ub V K w'/\(x=0/\(y,K)=r):=by
 obtain ⟨h1,bs,h2⟩:=h;rcases h1 with h1 | h1
 ·exact ⟨0,r.1,r.2,.inl h1,h2.uo,rfl,rfl⟩
 ·exact ⟨0,r.1,r.2,.inr ⟨h1,rfl⟩,h2.uo,rfl,rfl⟩
theorem bg1 {W w':World}{kb ub g0:Nat}{c:Cl}{av tv:Value}{th root:Int}{V:ah}{r:Int×KS×List Bool}{e:Ending}(h:b5_ W kb ub g0 c av tv th root V r e w'):
 ∃x y K,(e=.returned (.tuple #[.int .i64 x,.int .i64 y])\/(e=gup y/\x=0))/\r_ W kb ub V K w'/\(x=0/\(y,K)=(r.1,r.2.1)):=by
 obtain ⟨h1,h2⟩:=h;rcases h1 with h1 | h1
 ·exact ⟨0,r.1,r.2.1,.inl h1,h2.uo,rfl,rfl⟩
 ·exact ⟨0,r.1,r.2.1,.inr ⟨h1,rfl⟩,h2.uo,rfl,rfl⟩
theorem bo_ (S:KS)(V:ah)(kb:Nat)(c:Cl)(av tv:Value)(ba:Option Addr)(bn bc:Nat)(bs:List Bool)(th:Int)(w:World)(hb:ay1 w kb S V c av tv (.slice ba bn bc) bs)(hk:c.kind<=6\/11<c.kind):
 Calls Tryz.prog 11 (kf kb th c av tv (.slice ba bn bc)) w (fun e w'=>e=.returned (.tuple #[.int .i64 0,.int .i64 (py S th c bs).1])/\fg w kb V (py S th c bs).2 w'):=by
 have hc:=hb.toCallI;have h:=hc.kd;have hker:=h.kd.ker;have hV:V.ker=S.K:=h.kd.eq;have hstay:∀w',Fr w w' (fun _=>False)->fg w kb V S w':=fun w' hf=>h.stay hf
 cases ht:V.ker.thr th with
 | none=>
  have e:py S th c bs=(1,S):=by unfold py;rw [<- hV,ht]
  rw [e];exact (bf1 V kb c av tv _ th w hker ht).mono fun e w' ⟨h1,h2⟩=>⟨h1,hstay _ h2⟩
 | some t=>
  by_cases hs:t.state=1
  ·by_cases hlow:c.kind<1
   ·have e:py S th c bs=(7,S):=by unfold py;rw [<- hV,ht];simp [hs,hlow]
    rw [e];exact (b51 V kb c av tv _ th w hker ht hs hlow).mono fun e w' ⟨h1,h2⟩=>⟨h1,hstay _ h2⟩
   ·by_cases hhi:12<=c.kind
    ·have e:py S th c bs=(7,S):=by unfold py;rw [<- hV,ht];simp [hs,show 11<c.kind by omega]
     rw [e];exact (b27 V kb c av tv _ th w hker ht hs hhi).mono fun e w' ⟨h1,h2⟩=>⟨h1,hstay _ h2⟩
    ·have hk6:c.kind=1\/c.kind=2\/c.kind=3\/c.kind=4\/c.kind=5\/c.kind=6:=by omega
     have hthr:S.K.thr th=some t:=by rw [<- hV];exact ht
     have fin:∀r:Int×KS,py S th c bs=r->Calls Tryz.prog 11 (kf kb th c av tv (.slice ba bn bc)) w (fun e w'=>∃x y K,e=.returned (.tuple #[.int .i64 x,.int .i64 y])/\fg w kb V K w'/\(x=0/\(y,K)=r))->
      Calls Tryz.prog 11 (kf kb th c av tv (.slice ba bn bc)) w (fun e w'=>e=.returned (.tuple #[.int .i64 0,.int .i64 (py S th c bs).1])/\fg w kb V (py S th c bs).2 w'):=by
      intro r e hr;rw [e];refine hr.mono ?_;rintro e w' ⟨x,y,K,h1,h2,rfl,rfl⟩;exact ⟨h1,h2⟩
     have hsm:c.kind=2\/c.kind=3\/c.kind=4->py S th c bs=((dj S.K (km S.K t.root c)).1,{S with K:=(dj S.K (km S.K t.root c)).2}):=fun hkk=>by
      unfold py;rw [hthr];simp only;rw [if_neg (by simpa using hs),if_neg (by omega),if_neg (by omega)]
     rcases hk6 with e | e | e | e | e | e
     ·refine fin (ah_ (ao bh bz F0 S bs) t.root c) ?_ (pz S V kb c av tv ba bn bc th w h ht hs (by omega) (by omega) 34 (by rw [e];exact bw7) cf1 _ ?_)
      ·unfold py ah_;rw [hthr];simp only;rw [if_neg (by simpa using hs),if_neg (by omega),if_pos (by omega)];generalize ao bh bz F0 S bs=y;obtain ⟨S1,bs1,go⟩:=y;cases go with
       | false=>rfl
       | true=>simp [e]
      ·intro W ub hW hU hu;obtain ⟨g0,hx⟩:=hb.x hW hU hu;exact (ax6 kb ub g0 S V c av tv th t.root bs W hx).mono fun e w' hx=>b15 hx
     ·refine fin _ (hsm (by omega)) (pz S V kb c av tv ba bn bc th w h ht hs (by omega) (by omega) 35 (by rw [e];exact bq1) cf2 _ ?_);intro W ub hW hU hu;have hcc:=hc.at hW hU hu;have e2:km S.K t.root c=jr V.ker t.root c:=by unfold km;rw [if_pos e,hV]
      rw [e2];exact (bw_ V kb ub c av tv _ th t.root W hcc.call).mono fun e w' hx=>au8 (aj9 hcc.kd hx)
     ·refine fin _ (hsm (by omega)) (pz S V kb c av tv ba bn bc th w h ht hs (by omega) (by omega) 36 (by rw [e];exact bp4) cf3 _ ?_);intro W ub hW hU hu;have hcc:=hc.at hW hU hu;have e2:km S.K t.root c=ia V.ker t.root c:=by unfold km;rw [if_neg (by omega),if_pos e,hV]
      rw [e2];exact (bs6 V kb ub c av tv _ th t.root W hcc.call).mono fun e w' hx=>au8 (aj9 hcc.kd hx)
     ·refine fin _ (hsm (by omega)) (pz S V kb c av tv ba bn bc th w h ht hs (by omega) (by omega) 37 (by rw [e];exact bq0) cf4 _ ?_);intro W ub hW hU hu;have hcc:=hc.at hW hU hu;have e2:km S.K t.root c=kw V.ker t.root c:=by unfold km;rw [if_neg (by omega),if_neg (by omega),hV]
      rw [e2];exact (bp6 V kb ub c av tv _ th t.root W hcc.call (by rw [hV];exact hc.good.tree)).mono fun e w' hx=>au8 (aj9 hcc.kd hx)
     ·refine fin ((ma (ao bh bz F0 S bs) t.root c eu).1,(ma (ao bh bz F0 S bs) t.root c eu).2.1) ?_ (pz S V kb c av tv ba bn bc th w h ht hs (by omega) (by omega) 38 (by rw [e];exact bu6) cf5 _ ?_)
      ·unfold py ma;rw [hthr];simp only;rw [if_neg (by simpa using hs),if_neg (by omega),if_pos (by omega)];generalize ao bh bz F0 S bs=y;obtain ⟨S1,bs1,go⟩:=y;cases go with
       | false=>rfl
       | true=>
        simp only [Bool.true_eq_false,if_false,if_true];rw [if_neg (by omega)];cases hfi:az S1.K t.root c.at_ with
        | none=>rfl
        | some s=>
         simp only;cases hh:S1.K.held s with
         | none=>rfl
         | some k=>
          simp only [Option.isNone_some,Bool.false_eq_true,if_false];rw [if_pos e]
      ·intro W ub hW hU hu;obtain ⟨g0,hx⟩:=hb.x hW hU hu;exact (au3 kb ub g0 S V c av tv th t.root bs W hx).mono fun e w' hx=>bg1 hx
     ·refine fin ((ma (ao bh bz F0 S bs) t.root c (i_ F1)).1,(ma (ao bh bz F0 S bs) t.root c (i_ F1)).2.1) ?_ (pz S V kb c av tv ba bn bc th w h ht hs (by omega) (by omega) 39 (by rw [e];exact bx6) cf6 _ ?_)
      ·unfold py ma;rw [hthr];simp only;rw [if_neg (by simpa using hs),if_neg (by omega),if_pos (by omega)];generalize ao bh bz F0 S bs=y;obtain ⟨S1,bs1,go⟩:=y;cases go with
       | false=>rfl
       | true=>
        simp only [Bool.true_eq_false,if_false,if_true];rw [if_neg (by omega)];cases hfi:az S1.K t.root c.at_ with
        | none=>rfl
        | some s=>
         simp only;cases hh:S1.K.held s with
         | none=>rfl
         | some k=>
          simp only [Option.isNone_some,Bool.false_eq_true,if_false];rw [if_neg (by omega)]
      ·intro W ub hW hU hu;obtain ⟨g0,hx⟩:=hb.x hW hU hu;exact (aw3 kb ub g0 S V c av tv th t.root bs W hx).mono fun e w' hx=>bg1 hx
  ·have e:py S th c bs=(1,S):=by unfold py;rw [<- hV,ht];simp [hs]
   rw [e];exact (az1 V kb c av tv _ th w hker ht hs).mono fun e w' ⟨h1,h2⟩=>⟨h1,hstay _ h2⟩
theorem b40 (S:KS)(V:ah)(kb:Nat)(c:Cl)(av tv:Value)(bv:Value)(bs:List Bool)(th:Int)(w:World)(hb:ay1 w kb S V c av tv bv bs)(hw:∀i,i<1024->0<=S.K.ws i/\S.K.ws i<=4294967295):
 Calls Tryz.prog 11 (kf kb th c av tv bv) w (fun e w'=>e=.returned (.tuple #[.int .i64 (qg S th c bs).1,.int .i64 (qg S th c bs).2.1])/\fg w kb V (qg S th c bs).2.2 w'):=by
 obtain ⟨A,cap,rfl,_⟩:=id hb.bi;by_cases hk:7<=c.kind/\c.kind<=11
 ·have hX:qg S th c bs=px S th c:=if_pos hk;rw [hX];exact b33 S V kb c av tv A bs.length cap th w hb.toCallI hw hk
 ·have hX:qg S th c bs=(0,py S th c bs):=if_neg hk;rw [hX];exact bo_ S V kb c av tv A bs.length cap bs th w hb (by omega)
end Go.Proofs.YtdpjgflemddekaaGreatDoor
