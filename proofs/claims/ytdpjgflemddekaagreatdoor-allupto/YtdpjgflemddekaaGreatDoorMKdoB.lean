/- The code: Do of any kind, with interrupts. -/
import Derived.Test.YtdpjgflemddekaaGreatDoorMLoadA
import Derived.Test.YtdpjgflemddekaaGreatDoorMResD
import Derived.Test.YtdpjgflemddekaaGreatDoorMIterD
namespace Go.Proofs.YtdpjgflemddekaaGreatDoor
open Go.RowKit Go.Shelf
def BitsAt (w:World)(bv:Value)(bs:List Bool):Prop:=
 ∃A cap,bv=.slice A bs.length cap/\bs.length<=cap/\(0<bs.length->∃g o,A=some ⟨g,o,none⟩/\∀i (hi:i<bs.length),w.cell? ⟨g,o+i,none⟩=some (.bool bs[i]))
theorem BitsAt.none (w:World)(A:Option Addr)(cap:Nat):BitsAt w (.slice A 0 cap) []:=⟨A,cap,rfl,Nat.zero_le _,fun h=>absurd h (by simp)⟩
structure CallIB (w:World)(kb:Nat)(S:KS)(V:KerV)(c:Cl)(av tv bv:Value)(bs:List Bool):Prop extends CallI w kb S V c av tv where
 bi:BitsAt w bv bs
 db:0<bs.length->∀k,bv.ownBlock=some k->¬V.fd kb k
theorem CallIB.x {w W:World}{kb ub:Nat}{S:KS}{V:KerV}{c:Cl}{av tv bv:Value}{bs:List Bool}{th root:Int}(h:CallIB w kb S V c av tv bv bs)(hF:Fr w W (fun _=>False))(hT:TurnAt W ub kb c av tv th root bv)(hu:w.heap.size<=ub):∃g0,CallX W kb ub g0 S V c av tv th root bs:=by
 have h2:=h.kd.gl.lt;have hsz:=hF.size;have hub:¬V.fd kb ub:=fun e=>by have:=h.kd.lt e;omega
 have hkd:=h.kd.frame hF (fun _ _=>id) (fun _=>False.elim);have hda:0<c.at_.length->∀k,av.ownBlock=some k->¬V.fd kb k/\k≠ub:=fun h0 k hk=>⟨h.da h0 k hk,fun e=>by have:=h.at_.ltk h0 k hk;omega⟩
 have hdt:0<c.to.length->∀k,tv.ownBlock=some k->¬V.fd kb k/\k≠ub:=fun h0 k hk=>⟨h.dt h0 k hk,fun e=>by have:=h.ti.ltk h0 k hk;omega⟩
 obtain ⟨A,cap,hbv,hcap,hA⟩:=id h.bi;by_cases h0:0<bs.length
 ·obtain ⟨g,o,rfl,hc⟩:=hA h0;have hgl:g<w.heap.size:=World.block_lt_of_cell? _ _ (hc 0 h0);have hg:¬V.fd kb g:=h.db h0 g (by rw [hbv];rfl);subst hbv;exact ⟨g,hkd,h.good,⟨_,cap,hT,hcap,fun _=>⟨o,rfl,fun i hi=>hF.cell (hc i hi) id⟩⟩,h.at_.fr hF (fun _ _=>id),h.ti.fr hF (fun _ _=>id),h.al,h.tl,h.ac,h.tc,⟨hub,hg,by omega,by omega,by omega⟩,hda,hdt⟩
 ·subst hbv;exact ⟨0,hkd,h.good,⟨_,cap,hT,hcap,fun e=>absurd e h0⟩,h.at_.fr hF (fun _ _=>id),h.ti.fr hF (fun _ _=>id),h.al,h.tl,h.ac,h.tc,⟨hub,fun e=>by have:=h.kd.ge _ e;omega,by omega,by omega,by omega⟩,hda,hdt⟩
theorem KBOut.uo {w w':World}{kb ub g0:Nat}{c:Cl}{av tv:Value}{th root:Int}{V:KerV}{S:KS}{bs:List Bool}(h:KBOut w kb ub g0 c av tv th root V S bs w'):KUOut w kb ub V S w':=by
 obtain ⟨V',h1,h2,h3,_⟩:=h;exact ⟨V',h1,h2,h3⟩
theorem gotr_of {W w':World}{kb ub g0:Nat}{c:Cl}{av tv:Value}{th root:Int}{V:KerV}{r:Int×KS}{e:Ending}(h:GotR W kb ub g0 c av tv th root V r e w'):
 ∃x y K,(e=.returned (.tuple #[.int .i64 x,.int .i64 y])\/(e=gup y/\x=0))/\KUOut W kb ub V K w'/\(x=0/\(y,K)=r):=by
 obtain ⟨h1,bs,h2⟩:=h;rcases h1 with h1 | h1
 ·exact ⟨0,r.1,r.2,.inl h1,h2.uo,rfl,rfl⟩
 ·exact ⟨0,r.1,r.2,.inr ⟨h1,rfl⟩,h2.uo,rfl,rfl⟩
theorem gotx_of {W w':World}{kb ub g0:Nat}{c:Cl}{av tv:Value}{th root:Int}{V:KerV}{r:Int×KS×List Bool}{e:Ending}(h:GotX W kb ub g0 c av tv th root V r e w'):
 ∃x y K,(e=.returned (.tuple #[.int .i64 x,.int .i64 y])\/(e=gup y/\x=0))/\KUOut W kb ub V K w'/\(x=0/\(y,K)=(r.1,r.2.1)):=by
 obtain ⟨h1,h2⟩:=h;rcases h1 with h1 | h1
 ·exact ⟨0,r.1,r.2.1,.inl h1,h2.uo,rfl,rfl⟩
 ·exact ⟨0,r.1,r.2.1,.inr ⟨h1,rfl⟩,h2.uo,rfl,rfl⟩
theorem kdo_bits (S:KS)(V:KerV)(kb:Nat)(c:Cl)(av tv:Value)(ba:Option Addr)(bn bc:Nat)(bs:List Bool)(th:Int)(w:World)(hb:CallIB w kb S V c av tv (.slice ba bn bc) bs)(hk:c.kind<=6\/11<c.kind):
 Calls Tryz.prog 11 (doArgs kb th c av tv (.slice ba bn bc)) w (fun e w'=>e=.returned (.tuple #[.int .i64 0,.int .i64 (doKB S th c bs).1])/\KGOut w kb V (doKB S th c bs).2 w'):=by
 have hc:=hb.toCallI;have h:=hc.kd;have hker:=h.kd.ker;have hV:V.ker=S.K:=h.kd.eq;have hstay:∀w',Fr w w' (fun _=>False)->KGOut w kb V S w':=fun w' hf=>h.stay hf
 cases ht:V.ker.thr th with
 | none=>
  have e:doKB S th c bs=(1,S):=by unfold doKB;rw [<- hV,ht]
  rw [e];exact (do_none V kb c av tv _ th w hker ht).mono fun e w' ⟨h1,h2⟩=>⟨h1,hstay _ h2⟩
 | some t=>
  by_cases hs:t.state=1
  ·by_cases hlow:c.kind<1
   ·have e:doKB S th c bs=(7,S):=by unfold doKB;rw [<- hV,ht];simp [hs,hlow]
    rw [e];exact (do_low V kb c av tv _ th w hker ht hs hlow).mono fun e w' ⟨h1,h2⟩=>⟨h1,hstay _ h2⟩
   ·by_cases hhi:12<=c.kind
    ·have e:doKB S th c bs=(7,S):=by unfold doKB;rw [<- hV,ht];simp [hs,show 11<c.kind by omega]
     rw [e];exact (do_high V kb c av tv _ th w hker ht hs hhi).mono fun e w' ⟨h1,h2⟩=>⟨h1,hstay _ h2⟩
    ·have hk6:c.kind=1\/c.kind=2\/c.kind=3\/c.kind=4\/c.kind=5\/c.kind=6:=by omega
     have hthr:S.K.thr th=some t:=by rw [<- hV];exact ht
     have fin:∀r:Int×KS,doKB S th c bs=r->Calls Tryz.prog 11 (doArgs kb th c av tv (.slice ba bn bc)) w (fun e w'=>∃x y K,e=.returned (.tuple #[.int .i64 x,.int .i64 y])/\KGOut w kb V K w'/\(x=0/\(y,K)=r))->
      Calls Tryz.prog 11 (doArgs kb th c av tv (.slice ba bn bc)) w (fun e w'=>e=.returned (.tuple #[.int .i64 0,.int .i64 (doKB S th c bs).1])/\KGOut w kb V (doKB S th c bs).2 w'):=by
      intro r e hr;rw [e];refine hr.mono ?_;rintro e w' ⟨x,y,K,h1,h2,rfl,rfl⟩;exact ⟨h1,h2⟩
     have hsm:c.kind=2\/c.kind=3\/c.kind=4->doKB S th c bs=((b_ S.K (smallK S.K t.root c)).1,{S with K:=(b_ S.K (smallK S.K t.root c)).2}):=fun hkk=>by
      unfold doKB;rw [hthr];simp only;rw [if_neg (by simpa using hs),if_neg (by omega),if_neg (by omega)]
     rcases hk6 with e | e | e | e | e | e
     ·refine fin (retypeX (aj ay a_ F0 S bs) t.root c) ?_ (do_any S V kb c av tv ba bn bc th w h ht hs (by omega) (by omega) 34 (by rw [e];exact meth_at1) cf1 _ ?_)
      ·unfold doKB retypeX;rw [hthr];simp only;rw [if_neg (by simpa using hs),if_neg (by omega),if_pos (by omega)];generalize aj ay a_ F0 S bs=y;obtain ⟨S1,bs1,go⟩:=y;cases go with
       | false=>rfl
       | true=>simp [e]
      ·intro W ub hW hU hu;obtain ⟨g0,hx⟩:=hb.x hW hU hu;exact (tretype_bits kb ub g0 S V c av tv th t.root bs W hx).mono fun e w' hx=>gotr_of hx
     ·refine fin _ (hsm (by omega)) (do_any S V kb c av tv ba bn bc th w h ht hs (by omega) (by omega) 35 (by rw [e];exact meth_at2) cf2 _ ?_);intro W ub hW hU hu;have hcc:=hc.at hW hU hu;have e2:smallK S.K t.root c=copyK V.ker t.root c:=by unfold smallK;rw [if_pos e,hV]
      rw [e2];exact (copy_any V kb ub c av tv _ th t.root W hcc.call).mono fun e w' hx=>got_of (small_of hcc.kd hx)
     ·refine fin _ (hsm (by omega)) (do_any S V kb c av tv ba bn bc th w h ht hs (by omega) (by omega) 36 (by rw [e];exact meth_at3) cf3 _ ?_);intro W ub hW hU hu;have hcc:=hc.at hW hU hu;have e2:smallK S.K t.root c=mintK V.ker t.root c:=by unfold smallK;rw [if_neg (by omega),if_pos e,hV]
      rw [e2];exact (mint_any V kb ub c av tv _ th t.root W hcc.call).mono fun e w' hx=>got_of (small_of hcc.kd hx)
     ·refine fin _ (hsm (by omega)) (do_any S V kb c av tv ba bn bc th w h ht hs (by omega) (by omega) 37 (by rw [e];exact meth_at4) cf4 _ ?_);intro W ub hW hU hu;have hcc:=hc.at hW hU hu;have e2:smallK S.K t.root c=moveK V.ker t.root c:=by unfold smallK;rw [if_neg (by omega),if_neg (by omega),hV]
      rw [e2];exact (move_any V kb ub c av tv _ th t.root W hcc.call (by rw [hV];exact hc.good.tree)).mono fun e w' hx=>got_of (small_of hcc.kd hx)
     ·refine fin ((takenB (aj ay a_ F0 S bs) t.root c df).1,(takenB (aj ay a_ F0 S bs) t.root c df).2.1) ?_ (do_any S V kb c av tv ba bn bc th w h ht hs (by omega) (by omega) 38 (by rw [e];exact meth_at5) cf5 _ ?_)
      ·unfold doKB takenB;rw [hthr];simp only;rw [if_neg (by simpa using hs),if_neg (by omega),if_pos (by omega)];generalize aj ay a_ F0 S bs=y;obtain ⟨S1,bs1,go⟩:=y;cases go with
       | false=>rfl
       | true=>
        simp only [Bool.true_eq_false,if_false,if_true];rw [if_neg (by omega)];cases hfi:ao S1.K t.root c.at_ with
        | none=>rfl
        | some s=>
         simp only;cases hh:S1.K.held s with
         | none=>rfl
         | some k=>
          simp only [Option.isNone_some,Bool.false_eq_true,if_false];rw [if_pos e]
      ·intro W ub hW hU hu;obtain ⟨g0,hx⟩:=hb.x hW hU hu;exact (tdelete_bits kb ub g0 S V c av tv th t.root bs W hx).mono fun e w' hx=>gotx_of hx
     ·refine fin ((takenB (aj ay a_ F0 S bs) t.root c (cj F1)).1,(takenB (aj ay a_ F0 S bs) t.root c (cj F1)).2.1) ?_ (do_any S V kb c av tv ba bn bc th w h ht hs (by omega) (by omega) 39 (by rw [e];exact meth_at6) cf6 _ ?_)
      ·unfold doKB takenB;rw [hthr];simp only;rw [if_neg (by simpa using hs),if_neg (by omega),if_pos (by omega)];generalize aj ay a_ F0 S bs=y;obtain ⟨S1,bs1,go⟩:=y;cases go with
       | false=>rfl
       | true=>
        simp only [Bool.true_eq_false,if_false,if_true];rw [if_neg (by omega)];cases hfi:ao S1.K t.root c.at_ with
        | none=>rfl
        | some s=>
         simp only;cases hh:S1.K.held s with
         | none=>rfl
         | some k=>
          simp only [Option.isNone_some,Bool.false_eq_true,if_false];rw [if_neg (by omega)]
      ·intro W ub hW hU hu;obtain ⟨g0,hx⟩:=hb.x hW hU hu;exact (trevoke_bits kb ub g0 S V c av tv th t.root bs W hx).mono fun e w' hx=>gotx_of hx
  ·have e:doKB S th c bs=(1,S):=by unfold doKB;rw [<- hV,ht];simp [hs]
   rw [e];exact (do_still V kb c av tv _ th w hker ht hs).mono fun e w' ⟨h1,h2⟩=>⟨h1,hstay _ h2⟩
theorem kdo_b (S:KS)(V:KerV)(kb:Nat)(c:Cl)(av tv:Value)(bv:Value)(bs:List Bool)(th:Int)(w:World)(hb:CallIB w kb S V c av tv bv bs)(hw:∀i,i<1024->0<=S.K.ws i/\S.K.ws i<=4294967295):
 Calls Tryz.prog 11 (doArgs kb th c av tv bv) w (fun e w'=>e=.returned (.tuple #[.int .i64 (doKX S th c bs).1,.int .i64 (doKX S th c bs).2.1])/\KGOut w kb V (doKX S th c bs).2.2 w'):=by
 obtain ⟨A,cap,rfl,_⟩:=id hb.bi;by_cases hk:7<=c.kind/\c.kind<=11
 ·have hX:doKX S th c bs=newKS S th c:=if_pos hk;rw [hX];exact kdo_new S V kb c av tv A bs.length cap th w hb.toCallI hw hk
 ·have hX:doKX S th c bs=(0,doKB S th c bs):=if_neg hk;rw [hX];exact kdo_bits S V kb c av tv A bs.length cap bs th w hb (by omega)
end Go.Proofs.YtdpjgflemddekaaGreatDoor
