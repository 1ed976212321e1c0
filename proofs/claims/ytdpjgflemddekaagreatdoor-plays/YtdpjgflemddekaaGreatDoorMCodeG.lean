/- The code: turn.find. -/
import Derived.Test.YtdpjgflemddekaaGreatDoorMCodeA
import Derived.Deep.DeepCutAuto
import Derived.Deep.CutBlock
import Derived.RegionDies
import Derived.Deep.RegionWith
set_option maxRecDepth 100000
set_option maxHeartbeats 1000000
namespace Go.Proofs.YtdpjgflemddekaaGreatDoor
open Go.RowKit
theorem ak2 (K:a_):∀(r:List Int) (nd x:Int),goK K nd (x :: r)=if okK K nd x then yh K ⟨nd,x⟩ r else none
 | [],nd,x=>rfl
 | y :: r,nd,x=>by
  simp only [goK,yh];split
  ·cases nf K ⟨nd,x⟩ with
   | none=>rfl
   | some nd'=>exact ak2 K r nd' y
  ·rfl
def jx (s:Slot):Value:=.agg #[.int .i64 s.node,.int .i64 s.index]
def bd:Option Slot->Ending
 | some s=>.returned (jx s)
 | none=>gup 2
theorem be0 (ub:Nat)(v:Value)(l:List Int)(w:World)(hv:ay w v l)(hl:l.length<=9000000000000000000)(h:l.length<1\/3<l.length):
 Calls Tryz.prog 59 #[.pointer (some ⟨ub,0,none⟩),v] w fun e w'=>e=gup 2/\Fr w w' (fun _=>False):=by
 obtain ⟨A,cap,rfl,_⟩:=hv;have hf:=(Fr.refl w (fun _=>False)).alloc (.cells #[.int .i64 0,.int .i64 0] 71);by_cases h1:l.length<1
 ·have h0:l.length=0:=by omega
  rw [h0];go_enter Tryz.func59,Tryz.ntmps59
  go_wp2;exact ⟨rfl,rfl,hf⟩
 ·have h2:3<l.length:=by omega
  have h3:decide ((l.length:Int)<1)=false:=by simp;omega
  clear h;rename_i hA;clear hA;generalize l.length=n at *
  have h4:(3:Int)<(n:Int):=by omega
  go_enter Tryz.func59,Tryz.ntmps59
  go_wp2;exact ⟨rfl,rfl,hf⟩
def bq8 (w wx:World)(v:Value)(s:Slot):Prop:=∃sb,v=.pointer (some ⟨sb,0,none⟩)/\Fr w wx (fun _=>False)/\w.heap.size<sb/\wx.heap[sb]?=some (.cells #[.int .i64 s.node,.int .i64 s.index] 71 (0,0))/\wx.heap[w.heap.size]?=some (.cells #[.int .i64 0,.int .i64 0] 71 (0,0))
theorem a45 {w W0 W2:World}{x y:Int}(hf0:Fr w W0 (fun _=>False))(hlt:w.heap.size<W0.heap.size)(hb0:W0.heap[w.heap.size]?=some (.cells #[.int .i64 0,.int .i64 0] 71 (0,0)))(hf2:Fr W0 W2 (fun _=>False)):
 bq8 w (W2.alloc (.cells #[.int .i64 x,.int .i64 y] 71)) (.pointer (some ⟨W2.heap.size,0,none⟩)) ⟨x,y⟩:=by
 have hs:=hf2.size;refine ⟨W2.heap.size,rfl,(hf0.step hf2 (fun _=>False.elim)).alloc _,by omega,heap_alloc_new _ _,?_⟩;exact (((Fr.refl W2 (fun _=>False)).alloc _).same (hf2.same hb0 id) id)
theorem ac0 {w:World}{b:Nat}{x y u v:Value}{t:TypeId}(h:w.heap[b]?=some (.cells #[u,v] t (0,0))):((w.setCell ⟨b,0,none⟩ x).setCell ⟨b,1,none⟩ y).heap[b]?=some (.cells #[x,y] t (0,0)):=
 ak _ b 1 y (ak _ b 0 x h)
theorem ra (w:World)(b:Nat)(x y:Value):Fr w ((w.setCell ⟨b,0,none⟩ x).setCell ⟨b,1,none⟩ y) (fun k=>k=b):=(Fr.set1 w b 0 x).step (Fr.set1 _ b 1 y) (fun _ h=>.inl h)
theorem bj7 {w W0 W2:World}{x y:Int}{u v:Value}{sb:Nat}(hf0:Fr w W0 (fun _=>False))(hlt:w.heap.size<sb)(hb0:W0.heap[w.heap.size]?=some (.cells #[.int .i64 0,.int .i64 0] 71 (0,0)))
 (hf2:Fr W0 W2 (fun _=>False)) (hb:W2.heap[sb]?=some (.cells #[u,v] 71 (0,0))) :
 bq8 w ((W2.setCell ⟨sb,0,none⟩ (.int .i64 x)).setCell ⟨sb,1,none⟩ (.int .i64 y)) (.pointer (some ⟨sb,0,none⟩)) ⟨x,y⟩:=by
 refine ⟨sb,rfl,(hf0.step hf2 (fun _=>False.elim)).step (ra _ _ _ _) (fun k hk=>.inr (by omega)),hlt,ac0 hb,?_⟩
 exact (ra W2 sb _ _).same (hf2.same hb0 id) (by omega)
theorem ab2 {W:World}{b:Nat}{x y u v:Value}{tmps:Array Value}(h:W.heap[b]?=some (.cells #[u,v] 71 (0,0)))(ht:tmps[4]?=some (.pointer (some ⟨b,0,none⟩))):
 (results Tryz.f59 tmps).run Tryz.prog ((W.setCell ⟨b,0,none⟩ x).setCell ⟨b,1,none⟩ y)=.ok (.agg #[x,y]) ((W.setCell ⟨b,0,none⟩ x).setCell ⟨b,1,none⟩ y):=by
 have hb:=ac0 (x:=x) (y:=y) h;have k0:=aa (o:=0) hb rfl;have k1:=aa (o:=1) hb rfl;generalize (W.setCell ⟨b,0,none⟩ x).setCell ⟨b,1,none⟩ y=W2 at k0 k1;simp [results,Tryz.results59,go_sem,ht,k0,k1]
theorem a96 (V:ah)(kb ub:Nat)(c:Cl)(av tv bv:Value)(th root:Int)(l:List Int)(g o cap:Nat)(w:World)(h:aq w kb V)(hu:ef w ub kb c av tv th root bv)(h1:0<l.length)(h3:l.length<=3)(hcap:l.length<=cap)
 (hx:∀i (hi:i<l.length),w.cell? ⟨g,o+i,none⟩=some (.int .i64 l[i])) :
 Calls Tryz.prog 59 #[.pointer (some ⟨ub,0,none⟩),.slice (some ⟨g,o,none⟩) l.length cap] w fun e w'=>e=bd (goK V.ker root l)/\Fr w w' (fun _=>False):=by
 have hx0:=hx 0 h1;rw [Nat.add_zero] at hx0;by_cases hok:okK V.ker root l[0]=true
 ·have hs:js V.ker root l[0]=.returned (.agg #[.int .i64 root,.int .i64 l[0]]):=by simp [js,hok]
  generalize hans:bd (goK V.ker root l)=ans;go_enter Tryz.func59,Tryz.ntmps59
  go_upto_region 3 with fail
  generalize hW0:w.alloc _=W0;have hf0:Fr w W0 (fun _=>False):=by rw [<- hW0];exact (Fr.refl _ _).alloc _
  have hb0:W0.heap[w.heap.size]?=some (.cells #[.int .i64 0,.int .i64 0] 71 (0,0)):=by rw [<- hW0];exact heap_alloc_new _ _
  clear hW0;have h0:=h.frame hf0 (fun _ _=>id);have hu0:=hu.frame hf0 id;have c1:=hu0.croot;have c2:=hf0.cell hx0 id;have n1:=World.block_lt_of_cell? _ _ c1;have n2:=World.block_lt_of_cell? _ _ c2;have n3:w.heap.size<W0.heap.size:=(Array.getElem?_eq_some_iff.1 hb0).1;have e1:=World.new_ne W0 _ c1;have e2:=World.new_ne W0 _ c2;have d0:Fr W0 W0.drew (fun _=>False):=(Fr.refl _ _).drew;have d1:Fr W0 (W0.alloc (.cells #[.int .i64 0,.int .i64 0] 71)).drew (fun _=>False):=((Fr.refl _ _).alloc _).drew;have hbn:(W0.alloc (.cells #[.int .i64 0,.int .i64 0] 71)).drew.heap[W0.heap.size]?=some (.cells #[.int .i64 0,.int .i64 0] 71 (0,0)):=heap_alloc_new _ _;have k0:=h0.frame d0 (fun _ _=>id);have k1:=h0.frame d1 (fun _ _=>id);have u0:=hu0.frame d0 id;have u1:=hu0.frame d1 id;go_cut [5] (fun v5 wx=>bq8 w wx v5 ⟨root,l[0]⟩)
  case first=>
   go_region_held3 (fun w'=>w'.cell? ⟨ub,12,none⟩=some (.int .i64 root)/\w'.cell? ⟨g,o,none⟩=some (.int .i64 l[0])) (go_keep)
    ((go_at_call 94;refine (vn V kb ub c av tv bv th root root l[0] _ (by first | exact k0 | exact k1) (by first | exact u0 | exact u1)).mono ?_;rintro e W2 ⟨rfl,hf2⟩;rw [hs];have g1:=hf2.cell (a:=⟨ub,12,none⟩) (v:=.int .i64 root) (by first | exact c1 | exact u1.croot) id;have g2:=hf2.cell (a:=⟨g,o,none⟩) (v:=.int .i64 l[0]) (by first | exact c2 | exact d1.cell c2 id) id;try (have g3:=aa (o:=0) (hf2.same hbn id) rfl;have g4:=aa (o:=1) (hf2.same hbn id) rfl;have g5:=ab (o:=0) (hf2.same hbn id);have g6:=ab (o:=1) (hf2.same hbn id))))
   ·go_wp2;go_meet;case rel=>exact a45 hf0 n3 hb0 (d0.step hf2 (fun _=>False.elim))
   ·go_wp2;go_meet;case rel=>exact bj7 hf0 n3 hb0 (d1.step hf2 (fun _=>False.elim)) (hf2.same hbn id)
  case rest=>
   have hgo:yh V.ker ⟨root,l[0]⟩ (l.drop 1)=goK V.ker root l:=by
    cases l with
    | nil=>simp at h1
    | cons a r=>simp only [List.getElem_cons_zero] at hok;rw [ak2,if_pos hok];rfl
   obtain ⟨sb,rfl,hfc,hsb,hbs,hbr⟩:=hcut;clear c1 c2 n1 n2 e1 e2 d0 d1 hbn k0 k1 u0 u1 h0 hu0 hb0 hf0 n3 hs hx0;by_cases hc1:cap=1
   ·have hl1:l.length=1:=by omega
    subst hc1;obtain ⟨x,rfl⟩:=List.length_eq_one_iff.1 hl1;have r0:=aa (o:=0) hbr rfl;have r1:=aa (o:=1) hbr rfl;have s0:=aa (o:=0) hbs rfl;have s1:=aa (o:=1) hbs rfl;have z0:=ab (o:=0) hbr;have z1:=ab (o:=1) hbr;go_wp2;refine wp_loop_rounds 1 ?_;rw [rounds_succ];go_wp2;refine bodyPost_ret (v:=.agg #[.int .i64 root,.int .i64 x]) (ab2 hbr rfl) rfl ⟨?_,hfc.step (ra _ _ _ _) (fun k hk=>.inr (by omega))⟩
    rw [<- hans,<- hgo];rfl
   ·go_wp2;go_loopw [30] (fun iv wr=>∃(k:Nat) (s:Slot),k<=l.length-1/\iv=.int .i64 k/\yh V.ker s (l.drop (k+1))=goK V.ker root l/\Fr w wr (fun _=>False)/\
     wr.heap[sb]?=some (.cells #[.int .i64 s.node,.int .i64 s.index] 71 (0,0))/\wr.heap[w.heap.size]?=some (.cells #[.int .i64 0,.int .i64 0] 71 (0,0))) (fun iv _=>l.length-(intOf iv).toNat)
    case atStart=>exact ⟨0,⟨root,l[0]⟩,Nat.zero_le _,rfl,hgo,hfc,hbs,hbr⟩
    case round=>
     obtain ⟨k,s,hk,rfl,hgo2,hfr,hbs2,hbr2⟩:=hrel;have hG:Hid (yh V.ker s (l.drop (k+1))=goK V.ker root l):=hgo2;clear hgo2 hgo hbs hbr hfc;have r0:=aa (o:=0) hbr2 rfl;have r1:=aa (o:=1) hbr2 rfl;have z0:=ab (o:=0) hbr2;have z1:=ab (o:=1) hbr2;have s0:=aa (o:=0) hbs2 rfl;have s1:=aa (o:=1) hbs2 rfl;by_cases hlt:k<l.length-1
     ·have hxk:w.cell? ⟨g,o+1+k,none⟩=some (.int .i64 l[k+1]):=by have:=hx (k+1) (by omega);rw [show o+(k+1)=o+1+k by omega] at this;exact this
      have hxr:=hfr.cell hxk id;have hlt2:(k:Int)<((l.length-1:Nat):Int):=by omega
      have hd:l.drop (k+1)=l[k+1] :: l.drop (k+2):=List.drop_eq_getElem_cons (by omega);have h2:=h.frame hfr (fun _ _=>id);have u2:=hu.frame hfr id;have hz0:=ab (o:=0) hbs2;have hz1:=ab (o:=1) hbs2;rw [hd] at hG;go_wp2_with fail
      refine (a78 V kb ub c av tv bv th root s wr h2 u2).mono ?_;rintro e w1 ⟨rfl,hf1⟩;cases hn:nf V.ker s with
      | none=>
       have ha:ans=gup 2:=by rw [<- hans,<- hG.out];simp [yh,hn,bd]
       have hna:o5 V.ker s=gup 2:=by simp [o5,hn]
       rw [hna];unfold gup;go_wp2;exact ⟨rfl,ha.symm,hfr.step hf1 (fun _=>False.elim)⟩
      | some nd=>
       have hna:o5 V.ker s=.returned (.int .i64 nd):=by simp [o5,hn]
       rw [hna];have hfr1:=hfr.step hf1 (fun _=>False.elim);have s0':=hf1.cell s0 id;have s1':=hf1.cell s1 id;clear s0 s1 hz0 hz1 r0 r1 z0 z1 hxr;go_wp2_with fail
       refine (vn V kb ub c av tv bv th root nd l[k+1] w1 (h.frame hfr1 (fun _ _=>id)) (hu.frame hfr1 id)).mono ?_;rintro e w2 ⟨rfl,hf2⟩;have hfr2:=hfr1.step hf2 (fun _=>False.elim);by_cases hok2:okK V.ker nd l[k+1]=true
       ·have hsa:js V.ker nd l[k+1]=.returned (.agg #[.int .i64 nd,.int .i64 l[k+1]]):=by simp [js,hok2]
        rw [hsa];have hbs3:=hf2.same (hf1.same hbs2 id) id;have hbr3:=hf2.same (hf1.same hbr2 id) id;have hG2:Hid (yh V.ker ⟨nd,l[k+1]⟩ (l.drop (k+1+1))=goK V.ker root l):=by show _=_;rw [<- hG.out];simp [yh,hn,hok2]
        have q0:=aa (o:=0) hbs3 rfl;have q1:=aa (o:=1) hbs3 rfl;have y0:=ab (o:=0) hbs3;have y1:=ab (o:=1) hbs3;clear s0' s1';go_wp2;go_roundw;case rel=>
         exact ⟨k+1,⟨nd,l[k+1]⟩,by omega,by go_num,hG2.out,hfr2.step (ra _ _ _ _) (fun k hk=>.inr (by omega)),ac0 hbs3,(ra w2 sb _ _).same hbr3 (by omega)⟩
        case measure=>simp [intOf];omega
       ·have hsa:js V.ker nd l[k+1]=gup 2:=by simp [js,hok2]
        have ha:ans=gup 2:=by rw [<- hans,<- hG.out];simp [yh,hn,hok2,bd]
        rw [hsa];unfold gup;go_wp2;exact ⟨rfl,ha.symm,hfr2⟩
     ·have hke:k=l.length-1:=by omega
      have hlt2:¬(k:Int)<((l.length-1:Nat):Int):=by omega
      have hfin:ans=.returned (.agg #[.int .i64 s.node,.int .i64 s.index]):=by
       rw [<- hans,<- hG.out,List.drop_eq_nil_of_le (by omega)];rfl
      clear hke;go_wp2;refine bodyPost_ret (v:=.agg #[.int .i64 s.node,.int .i64 s.index]) (ab2 hbr2 rfl) rfl ⟨by first | exact hfin.symm | rfl,hfr.step (ra _ _ _ _) (fun k hk=>.inr (by omega))⟩
 ·have hs:js V.ker root l[0]=gup 2:=by simp [js,hok]
  have ha:bd (goK V.ker root l)=gup 2:=by
   cases l with
   | nil=>simp at h1
   | cons a r=>simp only [List.getElem_cons_zero] at hok;rw [ak2,if_neg hok];rfl
  rw [ha];clear ha;go_enter Tryz.func59,Tryz.ntmps59
  go_upto_region 3 with fail
  generalize hW0:w.alloc _=W0;have hf0:Fr w W0 (fun _=>False):=by rw [<- hW0];exact (Fr.refl _ _).alloc _
  clear hW0;have h0:=h.frame hf0 (fun _ _=>id);have hu0:=hu.frame hf0 id;have c1:=hu0.croot;have c2:=hf0.cell hx0 id;have e1:=World.new_ne W0 _ c1;have e2:=World.new_ne W0 _ c2;have d0:Fr W0 W0.drew (fun _=>False):=(Fr.refl _ _).drew;have d1:Fr W0 (W0.alloc (.cells #[.int .i64 0,.int .i64 0] 71)).drew (fun _=>False):=((Fr.refl _ _).alloc _).drew;have k0:=h0.frame d0 (fun _ _=>id);have k1:=h0.frame d1 (fun _ _=>id);have u0:=hu0.frame d0 id;have u1:=hu0.frame d1 id;have n1:=World.block_lt_of_cell? _ _ c1;have n2:=World.block_lt_of_cell? _ _ c2;go_region_dies
  all_goals (
   refine (vn V kb ub c av tv bv th root root l[0] _ (by first | exact k0 | exact k1) (by first | exact u0 | exact u1)).mono ?_;rintro e W2 ⟨rfl,hf2⟩;rw [hs];unfold gup;have hF:Fr w W2 (fun _=>False):=hf0.step (by first | exact d0.step hf2 (fun _=>False.elim) | exact d1.step hf2 (fun _=>False.elim)) (fun _=>False.elim)
   clear hf2 k0 k1 u0 u1 d0 d1 c1 c2 hs;go_wp2;exact ⟨rfl,rfl,hF⟩)
theorem ph (V:ah)(kb ub:Nat)(c:Cl)(av tv bv v:Value)(th root:Int)(l:List Int)(w:World)(h:aq w kb V)(hu:ef w ub kb c av tv th root bv)(hv:ay w v l)(hl:l.length<=9000000000000000000)
 (hcap:∀A n cap,v=.slice A n cap->n<=cap) :
 Calls Tryz.prog 59 #[.pointer (some ⟨ub,0,none⟩),v] w fun e w'=>e=bd (az V.ker root l)/\Fr w w' (fun _=>False):=by
 by_cases h1:l.length<1\/3<l.length
 ·have:az V.ker root l=none:=if_pos h1;rw [this];exact be0 ub v l w hv hl h1
 ·have:az V.ker root l=goK V.ker root l:=if_neg h1;rw [this];obtain ⟨A,cap,rfl,hA⟩:=hv;obtain ⟨g,o,rfl,hx⟩:=hA (by omega);exact a96 V kb ub c av tv bv th root l g o cap w h hu (by omega) (by omega) (hcap _ _ _ rfl) hx
def mf (K:a_):Option Slot->Ending
 | none=>gup 2
 | some s=>if (K.held s).isSome then .returned (.tuple #[.agg #[.int .i64 0,.int .i64 0],.int .i64 4]) else .returned (.tuple #[.agg #[.int .i64 s.node,.int .i64 s.index],.int .i64 0])
theorem yf {W:World}{b:Nat}{x y u v e:Value}{tmps:Array Value}(h:W.heap[b]?=some (.cells #[u,v] 71 (0,0)))(ht:tmps[4]?=some (.pointer (some ⟨b,0,none⟩)))(h5:tmps[5]?=some e):
 (results Tryz.f68 tmps).run Tryz.prog ((W.setCell ⟨b,0,none⟩ x).setCell ⟨b,1,none⟩ y)=.ok (.tuple #[.agg #[x,y],e]) ((W.setCell ⟨b,0,none⟩ x).setCell ⟨b,1,none⟩ y):=by
 have hb:=ac0 (x:=x) (y:=y) h;have k0:=aa (o:=0) hb rfl;have k1:=aa (o:=1) hb rfl;generalize (W.setCell ⟨b,0,none⟩ x).setCell ⟨b,1,none⟩ y=W2 at k0 k1;simp [results,Tryz.results68,go_sem,ht,k0,k1,h5]
theorem po (V:ah)(kb ub:Nat)(c:Cl)(av tv bv v:Value)(th root:Int)(l:List Int)(w:World)(h:aq w kb V)(hu:ef w ub kb c av tv th root bv)(hv:ay w v l)(hl:l.length<=9000000000000000000)
 (hcap:∀A n cap,v=.slice A n cap->n<=cap) :
 Calls Tryz.prog 68 #[.pointer (some ⟨ub,0,none⟩),v] w fun e w'=>e=mf V.ker (az V.ker root l)/\Fr w w' (fun _=>False):=by
 generalize hans:mf V.ker (az V.ker root l)=ans;have hult:=hu.lt;have hklt:=h.fpLt (k:=kb) (.inl rfl);go_enter Tryz.func68,Tryz.ntmps68
 go_wp2_with fail
 generalize hW0:w.alloc _=W0;have hf0:Fr w W0 (fun _=>False):=by rw [<- hW0];exact (Fr.refl _ _).alloc _
 have hb0:W0.heap[w.heap.size]?=some (.cells #[.int .i64 0,.int .i64 0] 71 (0,0)):=by rw [<- hW0];exact heap_alloc_new _ _
 clear hW0;refine (ph V kb ub c av tv bv v th root l W0 (h.frame hf0 (fun _ _=>id)) (hu.frame hf0 id) (hv.fr hf0 (fun _ _=>id)) hl hcap).mono ?_;rintro e W1 ⟨rfl,hf1⟩;cases hfi:az V.ker root l with
 | none=>
  rw [hfi] at hans;subst hans;unfold bd gup;go_wp2;exact ⟨rfl,rfl,hf0.step hf1 (fun _=>False.elim)⟩
 | some s=>
  rw [hfi] at hans;clear hfi;unfold bd jx;have hF1:=hf0.step hf1 (fun _=>False.elim);have hb1:=hf1.same hb0 id;clear hf0 hf1 hb0;go_wp2_with fail
  generalize hW2:W1.alloc _=W2;have hf2:Fr W1 W2 (fun _=>False):=by rw [<- hW2];exact (Fr.refl _ _).alloc _
  have hbs:W2.heap[W1.heap.size]?=some (.cells #[.int .i64 s.node,.int .i64 s.index] 71 (0,0)):=by rw [<- hW2];exact heap_alloc_new _ _
  clear hW2;have hF2:=hF1.step hf2 (fun _=>False.elim);have hb2:=hf2.same hb1 id;have h2:=h.frame hF2 (fun _ _=>id);have u2:=hu.frame hF2 id;have c1:=u2.ck;have c2:=h2.ch;have s0:=aa (o:=0) hbs rfl;have s1:=aa (o:=1) hbs rfl;have hrun:=be (h2.frame ((Fr.refl W2 (fun _=>False)).drew) (fun _ _=>id)) s true;simp only [if_true] at hrun;have hd:Fr W2 W2.drew (fun _=>False):=(Fr.refl _ _).drew;have hF3:=hF2.step hd (fun _=>False.elim);have hb3:=hd.same hb2 id;have r0:=aa (o:=0) hb2 rfl;have r1:=aa (o:=1) hb2 rfl;have z0:=ab (o:=0) hb2;have z1:=ab (o:=1) hb2;have hlt2:w.heap.size<W2.heap.size:=(Array.getElem?_eq_some_iff.1 hb2).1;cases hk:(V.ker.held s).isSome with
  | true=>
   rw [hk] at hrun;have ha:ans=.returned (.tuple #[.agg #[.int .i64 0,.int .i64 0],.int .i64 4]):=by rw [<- hans];simp [mf,hk]
   clear hans;generalize jf (V.ker.held s)=hv' at hrun;go_region_held3 (fun w'=>w'.cell? ⟨ub,0,none⟩=some (.pointer (some ⟨kb,0,none⟩))/\w'.cell? ⟨kb,1024,none⟩=some (.map (some V.hb))/\w'.cell? ⟨W1.heap.size,0,none⟩=some (.int .i64 s.node)/\w'.cell? ⟨W1.heap.size,1,none⟩=some (.int .i64 s.index)) (go_keep) (fail)
   clear hrun;go_wp2;refine bodyPost_ret (v:=.tuple #[.agg #[.int .i64 0,.int .i64 0],.int .i64 4]) (yf hb3 rfl rfl) rfl ⟨by first | exact ha.symm | rfl,hF3.step (ra _ _ _ _) (fun k hk=>.inr (by omega))⟩
  | false=>
   rw [hk] at hrun;have ha:ans=.returned (.tuple #[.agg #[.int .i64 s.node,.int .i64 s.index],.int .i64 0]):=by rw [<- hans];simp [mf,hk]
   clear hans;generalize jf (V.ker.held s)=hv' at hrun;go_region_held3 (fun w'=>w'.cell? ⟨ub,0,none⟩=some (.pointer (some ⟨kb,0,none⟩))/\w'.cell? ⟨kb,1024,none⟩=some (.map (some V.hb))/\w'.cell? ⟨W1.heap.size,0,none⟩=some (.int .i64 s.node)/\w'.cell? ⟨W1.heap.size,1,none⟩=some (.int .i64 s.index)) (go_keep) (fail)
   clear hrun;go_wp2;refine bodyPost_ret (v:=.tuple #[.agg #[.int .i64 s.node,.int .i64 s.index],.int .i64 0]) (yf hb3 rfl rfl) rfl ⟨by first | exact ha.symm | rfl,hF3.step (ra _ _ _ _) (fun k hk=>.inr (by omega))⟩
theorem il (n:Int)(w:World):
 Calls Tryz.prog 65 #[.int .i64 n] w fun e w'=>e=.returned (.bool (decide (0<=n/\n<=7)))/\w'=w:=by
 by_cases h0:0<=n
 ·have d0:decide ((0:Int)<=n)=true:=by simpa using h0
  by_cases h1:n<=7
  ·have ha:decide (0<=n/\n<=7)=true:=by simp;omega
   rw [ha];go_enter Tryz.func65,Tryz.ntmps65
   go_wp2;go_ret;exact ⟨rfl,rfl⟩
  ·have ha:decide (0<=n/\n<=7)=false:=by simp;omega
   have d1:decide (n<=7)=false:=by simpa using h1
   rw [ha];go_enter Tryz.func65,Tryz.ntmps65
   go_wp2;go_ret;exact ⟨by first | rfl | simp [d1],rfl⟩
 ·have d0:decide ((0:Int)<=n)=false:=by simpa using h0
  have ha:decide (0<=n/\n<=7)=false:=by simp;omega
  rw [ha];go_enter Tryz.func65,Tryz.ntmps65
  go_wp2;go_ret;exact ⟨rfl,rfl⟩
attribute [local go_sem] jw h_ mm ui ly jm bp o7 ip o6 j_ gh mh kp
theorem qf (c:KCap)(r:Int)(w:World):
 Calls Tryz.prog 67 #[c.val,.int .i64 r] w fun e w'=>e=.returned (fj c r).val/\Fr w w' (fun _=>False):=by
 cases c with
 | untyped b n m=>
  obtain ⟨v,hv⟩:∃v,Hid ((fj (.untyped b n m) r).val=v):=⟨_,rfl⟩;rw [hv.out];go_enter Tryz.func67,Tryz.ntmps67
  simp only [KCap.val];go_wp2;go_ret;exact ⟨by rw [<- hv.out];rfl,Fr.refl _ _⟩
 | node b n q=>
  obtain ⟨v,hv⟩:∃v,Hid ((fj (.node b n q) r).val=v):=⟨_,rfl⟩;rw [hv.out];go_enter Tryz.func67,Tryz.ntmps67
  simp only [KCap.val];go_wp2;go_ret;exact ⟨by rw [<- hv.out];rfl,(Fr.refl _ _).alloc _⟩
 | endpoint b n q g=>
  obtain ⟨v,hv⟩:∃v,Hid ((fj (.endpoint b n q g) r).val=v):=⟨_,rfl⟩;rw [hv.out];go_enter Tryz.func67,Tryz.ntmps67
  simp only [KCap.val];go_wp2;go_ret;exact ⟨by rw [<- hv.out];rfl,(Fr.refl _ _).alloc _⟩
 | task b n q=>
  obtain ⟨v,hv⟩:∃v,Hid ((fj (.task b n q) r).val=v):=⟨_,rfl⟩;rw [hv.out];go_enter Tryz.func67,Tryz.ntmps67
  simp only [KCap.val];go_wp2;go_ret;exact ⟨by rw [<- hv.out];rfl,(Fr.refl _ _).alloc _⟩
 | frame b n q=>
  obtain ⟨v,hv⟩:∃v,Hid ((fj (.frame b n q) r).val=v):=⟨_,rfl⟩;rw [hv.out];go_enter Tryz.func67,Tryz.ntmps67
  simp only [KCap.val];go_wp2;go_ret;exact ⟨by rw [<- hv.out];rfl,(Fr.refl _ _).alloc _⟩
def ug (w:World)(kb:Nat)(V:ah)(r:Option (Int×a_))(e:Ending)(w':World):Prop:=
 match r with
 | none=>e=gup 2/\Fr w w' (fun _=>False)
 | some (x,K)=>e=.returned (.int .i64 x)/\kg w kb V K w'
theorem kg.frOf {w w':World}{kb:Nat}{V:ah}{K:a_}(h:kg w kb V K w'):Fr w w' (V.fp kb):=by
 obtain ⟨_,_,_,_,h4,_⟩:=h;exact h4
theorem kg.same {w w':World}{kb:Nat}{V:ah}(h:aq w kb V)(hf:Fr w w' (fun _=>False)):kg w kb V V.ker w':=
 ⟨V,h.frame hf (fun _ _=>id),rfl,rfl,hf.mono (fun _=>False.elim),fun _ hk=>.inl hk⟩
theorem aw4 (V:ah)(kb ub:Nat)(c:Cl)(av tv bv:Value)(th root:Int)(k:KCap)(p:Slot)(w:World)(h:aq w kb V)(hu:ef w ub kb c av tv th root bv)(hv:ay w tv c.to)(hl:c.to.length<=9000000000000000000)
 (hcap:∀A n cap,tv=.slice A n cap->n<=cap) (hub:¬V.fp kb ub) (hkids:∀x,am p V.M=some x->x.kids.length<1000000) :
 Calls Tryz.prog 66 #[.pointer (some ⟨ub,0,none⟩),k.val,.agg #[.int .i64 p.node,.int .i64 p.index]] w (ug w kb V (cj V.ker root c.to k p)):=by
 generalize hans:cj V.ker root c.to k p=ans;have hult:=hu.lt;have hklt:=h.fpLt (k:=kb) (.inl rfl);have cto:=hu.cto;go_enter Tryz.func66,Tryz.ntmps66
 go_wp2_with fail
 generalize hW0:w.alloc _=W0;have hf0:Fr w W0 (fun _=>False):=by rw [<- hW0];exact (Fr.refl _ _).alloc _
 have hb0:W0.heap[w.heap.size]?=some (.cells #[.int .i64 p.node,.int .i64 p.index] 71 (0,0)):=by rw [<- hW0];exact heap_alloc_new _ _
 clear hW0;refine (po V kb ub c av tv bv tv th root c.to W0 (h.frame hf0 (fun _ _=>id)) (hu.frame hf0 id) (hv.fr hf0 (fun _ _=>id)) hl hcap).mono ?_;rintro e W1 ⟨rfl,hf1⟩;have hF1:=hf0.step hf1 (fun _=>False.elim);have hb1:=hf1.same hb0 id;clear hf0 hf1 hb0 cto;cases hfi:az V.ker root c.to with
 | none=>
  have ha:ans=none:=by rw [<- hans];simp [cj,hfi]
  subst ha;clear hans;unfold mf gup;go_wp2;exact ⟨rfl,rfl,hF1⟩
 | some s=>
  cases hk:(V.ker.held s).isSome with
  | true=>
   have ha:ans=some (4,V.ker):=by rw [<- hans];simp [cj,hfi,hk]
   subst ha;clear hans;simp only [mf,hk,if_true];go_wp2;go_ret;exact ⟨rfl,kg.same h (hF1.alloc _)⟩
  | false=>
   have ha:ans=some (0,V.ker.lay s k p):=by rw [<- hans];simp [cj,hfi,hk]
   subst ha;clear hans;simp only [mf,hk,Bool.false_eq_true,if_false];go_wp2_with fail
   generalize hW2:W1.alloc _=W2;have hf2:Fr W1 W2 (fun _=>False):=by rw [<- hW2];exact (Fr.refl _ _).alloc _
   have hbs:W2.heap[W1.heap.size]?=some (.cells #[.int .i64 s.node,.int .i64 s.index] 71 (0,0)):=by rw [<- hW2];exact heap_alloc_new _ _
   clear hW2;have hF2:=hF1.step hf2 (fun _=>False.elim);have hb2:=hf2.same hb1 id;have h2:=h.frame hF2 (fun _ _=>id);have u2:=hu.frame hF2 id;have c1:=u2.ck;have s0:=aa (o:=0) hbs rfl;have s1:=aa (o:=1) hbs rfl;have p0:=aa (o:=0) hb2 rfl;have p1:=aa (o:=1) hb2 rfl;have hd:Fr W2 W2.drew (fun _=>False):=(Fr.refl _ _).drew;have h3:=h2.frame hd (fun _ _=>id);have hF3:=hF2.step hd (fun _=>False.elim);have hlt1:=hF1.size;have hlt2:W1.heap.size<W2.heap.size:=(Array.getElem?_eq_some_iff.1 hbs).1;have no:∀x,w.heap.size<=x->¬V.fp kb x:=fun x hx hx2=>by have:=h.fpLt hx2;omega
   go_region_held3 (fun w'=>w'.cell? ⟨ub,0,none⟩=some (.pointer (some ⟨kb,0,none⟩))/\w'.cell? ⟨W1.heap.size,0,none⟩=some (.int .i64 s.node)/\w'.cell? ⟨W1.heap.size,1,none⟩=some (.int .i64 s.index)/\w'.cell? ⟨w.heap.size,0,none⟩=some (.int .i64 p.node)/\w'.cell? ⟨w.heap.size,1,none⟩=some (.int .i64 p.index)) (go_keep)
    ((go_at_call 18;refine (qy V kb s p k _ h3 hkids).mono ?_;rintro e W4 ⟨rfl,hK⟩;have hfK:=hK.frOf;obtain ⟨g1,g2⟩:=ah3 hfK hbs (no _ hlt1);obtain ⟨g3,g4⟩:=ah3 hfK hb2 (no _ (Nat.le_refl _));have g5:=(ef.frame (w:=W2.drew) u2 hfK hub).ck))
   have hK2:=hK.of (V:=V) (hF3.mono (fun _=>False.elim)) rfl (fun k hk=>.inl hk);clear g1 g2 g3 g4 g5 hfK hK h3 c1 s0 s1 p0 p1;go_wp2;go_ret;exact ⟨rfl,hK2⟩
def gg (w:World)(kb:Nat)(V:ah)(r:Option (Int×a_))(e:Ending)(w':World):Prop:=
 match r with
 | none=>e=gup 2/\Fr w w' (fun _=>False)
 | some (x,K)=>e=.returned (.tuple #[.int .i64 0,.int .i64 x])/\kg w kb V K w'
theorem ye {w w':World}{kb:Nat}{V:ah}{r:Option (Int×a_)}{e:Ending}(h:ug w kb V r e w')(hr:r=none):e=gup 2/\Fr w w' (fun _=>False):=by subst hr;exact h
theorem yd {w w':World}{kb:Nat}{V:ah}{r:Option (Int×a_)}{e:Ending}{x:Int}{K:a_}(h:ug w kb V r e w')(hr:r=some (x,K)):e=.returned (.int .i64 x)/\kg w kb V K w':=by subst hr;exact h
theorem al2 {G:Prop}(h:G)(w:World)(_:wpAny Tryz.prog .any #[] (fun _ _ _=>True) 0 #[] {tmps:=#[],defers:=[]} w):G:=h
structure de (w:World)(kb ub:Nat)(V:ah)(c:Cl)(av tv bv:Value)(th root:Int):Prop where
 ker:aq w kb V
 turn:ef w ub kb c av tv th root bv
 at_:ay w av c.at_
 ti:ay w tv c.to
 al:c.at_.length<=9000000000000000000
 tl:c.to.length<=9000000000000000000
 ac:∀A n cap,av=.slice A n cap->n<=cap
 tc:∀A n cap,tv=.slice A n cap->n<=cap
 ub:¬V.fp kb ub
 kids:∀p x,am p V.M=some x->x.kids.length<1000000
theorem de.frame {w w':World}{kb ub:Nat}{V:ah}{c:Cl}{av tv bv:Value}{th root:Int}(h:de w kb ub V c av tv bv th root)(hf:Fr w w' (fun _=>False)):de w' kb ub V c av tv bv th root:=
 ⟨h.ker.frame hf (fun _ _=>id),h.turn.frame hf id,h.at_.fr hf (fun _ _=>id),h.ti.fr hf (fun _ _=>id),h.al,h.tl,h.ac,h.tc,h.ub,h.kids⟩
theorem de.find {w:World}{kb ub:Nat}{V:ah}{c:Cl}{av tv bv:Value}{th root:Int}(h:de w kb ub V c av tv bv th root):
 Calls Tryz.prog 59 #[.pointer (some ⟨ub,0,none⟩),av] w fun e w'=>e=bd (az V.ker root c.at_)/\Fr w w' (fun _=>False):=
 ph V kb ub c av tv bv av th root c.at_ w h.ker h.turn h.at_ h.al h.ac
theorem de.findTo {w:World}{kb ub:Nat}{V:ah}{c:Cl}{av tv bv:Value}{th root:Int}(h:de w kb ub V c av tv bv th root):
 Calls Tryz.prog 59 #[.pointer (some ⟨ub,0,none⟩),tv] w fun e w'=>e=bd (az V.ker root c.to)/\Fr w w' (fun _=>False):=
 ph V kb ub c av tv bv tv th root c.to w h.ker h.turn h.ti h.tl h.tc
theorem de.child {w:World}{kb ub:Nat}{V:ah}{c:Cl}{av tv bv:Value}{th root:Int}(h:de w kb ub V c av tv bv th root)(k:KCap)(p:Slot):
 Calls Tryz.prog 66 #[.pointer (some ⟨ub,0,none⟩),k.val,.agg #[.int .i64 p.node,.int .i64 p.index]] w (ug w kb V (cj V.ker root c.to k p)):=
 aw4 V kb ub c av tv bv th root k p w h.ker h.turn h.ti h.tl h.tc h.ub (h.kids p)
theorem a81 (V:ah)(kb ub:Nat)(c:Cl)(av tv bv:Value)(th root:Int)(s:Slot)(w:World)(h:de w kb ub V c av tv bv th root)
 (hfi:az V.ker root c.at_=some s) (hk:V.ker.held s=none) :
 Calls Tryz.prog 35 #[.pointer (some ⟨ub,0,none⟩)] w (gg w kb V (jr V.ker root c)):=by
 have hans:jr V.ker root c=some (4,V.ker):=by simp [jr,hfi,hk]
 rw [hans];clear hans;have hult:=h.turn.lt;have cat':=h.turn.cat;go_enter Tryz.func35,Tryz.ntmps35
 go_wp2_with fail
 refine h.find.mono ?_;rintro e W1 ⟨rfl,hf1⟩;rw [hfi];unfold bd jx;clear cat';go_wp2_with fail
 generalize hW2:W1.alloc _=W2;have hf2:Fr W1 W2 (fun _=>False):=by rw [<- hW2];exact (Fr.refl _ _).alloc _
 have hbs:W2.heap[W1.heap.size]?=some (.cells #[.int .i64 s.node,.int .i64 s.index] 71 (0,0)):=by rw [<- hW2];exact heap_alloc_new _ _
 clear hW2;have hF2:=hf1.step hf2 (fun _=>False.elim);have h2:=h.frame hF2;have c1:=h2.turn.ck;have c2:=h2.ker.ch;have s0:=aa (o:=0) hbs rfl;have s1:=aa (o:=1) hbs rfl;have hrun:=be (h2.ker.frame ((Fr.refl W2 (fun _=>False)).drew) (fun _ _=>id)) s true;simp only [if_true,hk,jf,Option.isSome] at hrun;go_region_held3 (fun w'=>w'.cell? ⟨ub,0,none⟩=some (.pointer (some ⟨kb,0,none⟩))/\w'.cell? ⟨kb,1024,none⟩=some (.map (some V.hb))/\w'.cell? ⟨W1.heap.size,0,none⟩=some (.int .i64 s.node)/\w'.cell? ⟨W1.heap.size,1,none⟩=some (.int .i64 s.index)) (go_keep) (fail)
 clear hrun;go_wp2;go_ret2;exact ⟨rfl,kg.same h.ker hF2.drew⟩
theorem aw8 (V:ah)(kb ub:Nat)(c:Cl)(av tv bv:Value)(th root:Int)(s:Slot)(b n m:Int)(w:World)(h:de w kb ub V c av tv bv th root)
 (hfi:az V.ker root c.at_=some s) (hk:V.ker.held s=some (.untyped b n m)) :
 Calls Tryz.prog 35 #[.pointer (some ⟨ub,0,none⟩)] w (gg w kb V (jr V.ker root c)):=by
 have hans:jr V.ker root c=some (3,V.ker):=by simp [jr,hfi,hk,KCap.isU]
 rw [hans];clear hans;have hult:=h.turn.lt;have cat':=h.turn.cat;go_enter Tryz.func35,Tryz.ntmps35
 go_wp2_with fail
 refine h.find.mono ?_;rintro e W1 ⟨rfl,hf1⟩;rw [hfi];unfold bd jx;clear cat';go_wp2_with fail
 generalize hW2:W1.alloc _=W2;have hf2:Fr W1 W2 (fun _=>False):=by rw [<- hW2];exact (Fr.refl _ _).alloc _
 have hbs:W2.heap[W1.heap.size]?=some (.cells #[.int .i64 s.node,.int .i64 s.index] 71 (0,0)):=by rw [<- hW2];exact heap_alloc_new _ _
 clear hW2;have hF2:=hf1.step hf2 (fun _=>False.elim);have h2:=h.frame hF2;have c1:=h2.turn.ck;have c2:=h2.ker.ch;have s0:=aa (o:=0) hbs rfl;have s1:=aa (o:=1) hbs rfl;have hrun:=be (h2.ker.frame ((Fr.refl W2 (fun _=>False)).drew) (fun _ _=>id)) s true;simp only [if_true,hk,jf,Option.isSome] at hrun;go_region_held3 (fun w'=>w'.cell? ⟨ub,0,none⟩=some (.pointer (some ⟨kb,0,none⟩))/\w'.cell? ⟨kb,1024,none⟩=some (.map (some V.hb))/\w'.cell? ⟨W1.heap.size,0,none⟩=some (.int .i64 s.node)/\w'.cell? ⟨W1.heap.size,1,none⟩=some (.int .i64 s.index)) (go_keep) (fail)
 clear hrun;simp only [KCap.val];have hta:=ir;go_wp2;go_ret2;exact ⟨rfl,kg.same h.ker (hF2.alloc _).drew⟩
theorem a07 (V:ah)(kb ub:Nat)(c:Cl)(av tv bv:Value)(th root:Int)(s:Slot)(k:KCap)(w:World)(h:de w kb ub V c av tv bv th root)
 (hfi:az V.ker root c.at_=some s) (hk:V.ker.held s=some k) (hun:k.isU=false) (hr:¬(0<=c.rights/\c.rights<=7)) (hta:∀W,(Instr.typeAssert k.val 79 76 true).run Tryz.prog W=.ok (.tuple #[.agg #[.int .i64 0,.int .i64 0,.int .i64 0],.bool false]) W) :
 Calls Tryz.prog 35 #[.pointer (some ⟨ub,0,none⟩)] w (gg w kb V (jr V.ker root c)):=by
 have hans:jr V.ker root c=some (7,V.ker):=by simp only [jr,hfi,hk,hun,if_neg hr];rfl
 rw [hans];clear hans;have hult:=h.turn.lt;have cat':=h.turn.cat;go_enter Tryz.func35,Tryz.ntmps35
 go_wp2_with fail
 refine h.find.mono ?_;rintro e W1 ⟨rfl,hf1⟩;rw [hfi];unfold bd jx;clear cat';go_wp2_with fail
 generalize hW2:W1.alloc _=W2;have hf2:Fr W1 W2 (fun _=>False):=by rw [<- hW2];exact (Fr.refl _ _).alloc _
 have hbs:W2.heap[W1.heap.size]?=some (.cells #[.int .i64 s.node,.int .i64 s.index] 71 (0,0)):=by rw [<- hW2];exact heap_alloc_new _ _
 clear hW2;have hF2:=hf1.step hf2 (fun _=>False.elim);have h2:=h.frame hF2;have c1:=h2.turn.ck;have c2:=h2.ker.ch;have s0:=aa (o:=0) hbs rfl;have s1:=aa (o:=1) hbs rfl;have hrun:=be (h2.ker.frame ((Fr.refl W2 (fun _=>False)).drew) (fun _ _=>id)) s true;simp only [if_true,hk,jf,Option.isSome] at hrun;go_region_held3 (fun w'=>w'.cell? ⟨ub,0,none⟩=some (.pointer (some ⟨kb,0,none⟩))/\w'.cell? ⟨kb,1024,none⟩=some (.map (some V.hb))/\w'.cell? ⟨W1.heap.size,0,none⟩=some (.int .i64 s.node)/\w'.cell? ⟨W1.heap.size,1,none⟩=some (.int .i64 s.index)) (go_keep) (fail)
 clear hrun;have cr:=h2.turn.crights;have hrt:decide (0<=c.rights/\c.rights<=7)=false:=by simpa using hr
 have hult2:=h2.turn.lt;go_wp2_with (go_at_call 65;refine (il c.rights _).mono ?_;rintro e w' ⟨rfl,rfl⟩;rw [hrt])
 go_ret2;exact ⟨rfl,kg.same h.ker (hF2.alloc _).drew⟩
theorem bc9 (V:ah)(kb ub:Nat)(c:Cl)(av tv bv:Value)(th root:Int)(s:Slot)(k:KCap)(w:World)(h:de w kb ub V c av tv bv th root)
 (hfi:az V.ker root c.at_=some s) (hk:V.ker.held s=some k) (hun:k.isU=false) (hr:0<=c.rights/\c.rights<=7) (hp:cj V.ker root c.to (fj k c.rights) s=none) (hta:∀W,(Instr.typeAssert k.val 79 76 true).run Tryz.prog W=.ok (.tuple #[.agg #[.int .i64 0,.int .i64 0,.int .i64 0],.bool false]) W) :
 Calls Tryz.prog 35 #[.pointer (some ⟨ub,0,none⟩)] w (gg w kb V (jr V.ker root c)):=by
 have hans:jr V.ker root c=none:=by simp only [jr,hfi,hk,hun,if_pos hr];exact hp
 rw [hans];clear hans;have hult:=h.turn.lt;have cat':=h.turn.cat;go_enter Tryz.func35,Tryz.ntmps35
 go_wp2_with fail
 refine h.find.mono ?_;rintro e W1 ⟨rfl,hf1⟩;rw [hfi];unfold bd jx;clear cat';go_wp2_with fail
 generalize hW2:W1.alloc _=W2;have hf2:Fr W1 W2 (fun _=>False):=by rw [<- hW2];exact (Fr.refl _ _).alloc _
 have hbs:W2.heap[W1.heap.size]?=some (.cells #[.int .i64 s.node,.int .i64 s.index] 71 (0,0)):=by rw [<- hW2];exact heap_alloc_new _ _
 clear hW2;have hF2:=hf1.step hf2 (fun _=>False.elim);have h2:=h.frame hF2;have c1:=h2.turn.ck;have c2:=h2.ker.ch;have s0:=aa (o:=0) hbs rfl;have s1:=aa (o:=1) hbs rfl;have hrun:=be (h2.ker.frame ((Fr.refl W2 (fun _=>False)).drew) (fun _ _=>id)) s true;simp only [if_true,hk,jf,Option.isSome] at hrun;go_region_held3 (fun w'=>w'.cell? ⟨ub,0,none⟩=some (.pointer (some ⟨kb,0,none⟩))/\w'.cell? ⟨kb,1024,none⟩=some (.map (some V.hb))/\w'.cell? ⟨W1.heap.size,0,none⟩=some (.int .i64 s.node)/\w'.cell? ⟨W1.heap.size,1,none⟩=some (.int .i64 s.index)) (go_keep) (fail)
 clear hrun;have cr:=h2.turn.crights;have hrt:decide (0<=c.rights/\c.rights<=7)=true:=by simpa using hr
 have hult2:=h2.turn.lt;go_wp2_with (go_at_call 65;refine (il c.rights _).mono ?_;rintro e w' ⟨rfl,rfl⟩;rw [hrt])
 generalize hW3:World.drew _=W3;have hf3:Fr W2 W3 (fun _=>False):=by rw [<- hW3];exact ((Fr.refl _ _).alloc _).drew
 clear hW3;have hF3:=hF2.step hf3 (fun _=>False.elim);have h3:=h.frame hF3;have cr3:=h3.turn.crights;have hbs3:=hf3.same hbs id;have t0:=aa (o:=0) hbs3 rfl;have t1:=aa (o:=1) hbs3 rfl;clear c1 c2 s0 s1 cr h2;go_region_with (first
  |(go_at_call 67;refine (qf k c.rights _).mono ?_;rintro e W5 ⟨rfl,hf5⟩;have hF5:Fr w W5 (fun _=>False):=(hF3.drew).step hf5 (fun _=>False.elim);have g1:=hf5.cell (a:=⟨W1.heap.size,0,none⟩) t0 id;have g2:=hf5.cell (a:=⟨W1.heap.size,1,none⟩) t1 id)
  |(go_at_call 66;refine ((h.frame hF5).child (fj k c.rights) s).mono ?_;rintro e W6 hO;obtain ⟨rfl,hf6⟩:=ye hO hp;unfold gup;refine al2 (by exact ⟨rfl,rfl,hF5.step hf6 (fun _=>False.elim)⟩) W6 ?_))
 all_goals trivial
theorem bl8 (V:ah)(kb ub:Nat)(c:Cl)(av tv bv:Value)(th root:Int)(s:Slot)(k:KCap)(x:Int)(K:a_)(w:World)(h:de w kb ub V c av tv bv th root)
 (hfi:az V.ker root c.at_=some s) (hk:V.ker.held s=some k) (hun:k.isU=false) (hr:0<=c.rights/\c.rights<=7) (hp:cj V.ker root c.to (fj k c.rights) s=some (x,K)) (hta:∀W,(Instr.typeAssert k.val 79 76 true).run Tryz.prog W=.ok (.tuple #[.agg #[.int .i64 0,.int .i64 0,.int .i64 0],.bool false]) W) :
 Calls Tryz.prog 35 #[.pointer (some ⟨ub,0,none⟩)] w (gg w kb V (jr V.ker root c)):=by
 have hans:jr V.ker root c=some (x,K):=by simp only [jr,hfi,hk,hun,if_pos hr];exact hp
 rw [hans];clear hans;have hult:=h.turn.lt;have cat':=h.turn.cat;go_enter Tryz.func35,Tryz.ntmps35
 go_wp2_with fail
 refine h.find.mono ?_;rintro e W1 ⟨rfl,hf1⟩;rw [hfi];unfold bd jx;clear cat';go_wp2_with fail
 generalize hW2:W1.alloc _=W2;have hf2:Fr W1 W2 (fun _=>False):=by rw [<- hW2];exact (Fr.refl _ _).alloc _
 have hbs:W2.heap[W1.heap.size]?=some (.cells #[.int .i64 s.node,.int .i64 s.index] 71 (0,0)):=by rw [<- hW2];exact heap_alloc_new _ _
 clear hW2;have hF2:=hf1.step hf2 (fun _=>False.elim);have h2:=h.frame hF2;have c1:=h2.turn.ck;have c2:=h2.ker.ch;have s0:=aa (o:=0) hbs rfl;have s1:=aa (o:=1) hbs rfl;have hrun:=be (h2.ker.frame ((Fr.refl W2 (fun _=>False)).drew) (fun _ _=>id)) s true;simp only [if_true,hk,jf,Option.isSome] at hrun;go_region_held3 (fun w'=>w'.cell? ⟨ub,0,none⟩=some (.pointer (some ⟨kb,0,none⟩))/\w'.cell? ⟨kb,1024,none⟩=some (.map (some V.hb))/\w'.cell? ⟨W1.heap.size,0,none⟩=some (.int .i64 s.node)/\w'.cell? ⟨W1.heap.size,1,none⟩=some (.int .i64 s.index)) (go_keep) (fail)
 clear hrun;have cr:=h2.turn.crights;have hrt:decide (0<=c.rights/\c.rights<=7)=true:=by simpa using hr
 have hult2:=h2.turn.lt;go_wp2_with (go_at_call 65;refine (il c.rights _).mono ?_;rintro e w' ⟨rfl,rfl⟩;rw [hrt])
 generalize hW3:World.drew _=W3;have hf3:Fr W2 W3 (fun _=>False):=by rw [<- hW3];exact ((Fr.refl _ _).alloc _).drew
 clear hW3;have hF3:=hF2.step hf3 (fun _=>False.elim);have h3:=h.frame hF3;have cr3:=h3.turn.crights;have hbs3:=hf3.same hbs id;have t0:=aa (o:=0) hbs3 rfl;have t1:=aa (o:=1) hbs3 rfl;clear c1 c2 s0 s1 cr h2;go_region_with (first
  |(go_at_call 67;refine (qf k c.rights _).mono ?_;rintro e W5 ⟨rfl,hf5⟩;have hF5:Fr w W5 (fun _=>False):=(hF3.drew).step hf5 (fun _=>False.elim);have g1:=hf5.cell (a:=⟨W1.heap.size,0,none⟩) t0 id;have g2:=hf5.cell (a:=⟨W1.heap.size,1,none⟩) t1 id)
  |(go_at_call 66;refine ((h.frame hF5).child (fj k c.rights) s).mono ?_;rintro e W6 hO;obtain ⟨rfl,hK6⟩:=yd hO hp;have hK7:=hK6.of (V:=V) (hF5.mono (fun _=>False.elim)) rfl (fun k hk=>.inl hk)))
 all_goals clear hK6 hO g1 g2 hf5 cr3 t0 t1
 all_goals go_wp2
 all_goals go_ret2
 all_goals exact ⟨rfl,hK7⟩
theorem vm {k:KCap}(h:k.isU=false)(W:World):(Instr.typeAssert k.val 79 76 true).run Tryz.prog W=.ok (.tuple #[.agg #[.int .i64 0,.int .i64 0,.int .i64 0],.bool false]) W:=by
 cases k with
 | untyped b n m=>cases h
 | node b n r=>exact v_ _ W
 | endpoint b n r g=>exact qe _ W
 | task b n r=>exact wa _ W
 | frame b n r=>exact uj _ W
theorem bw_ (V:ah)(kb ub:Nat)(c:Cl)(av tv bv:Value)(th root:Int)(w:World)(h:de w kb ub V c av tv bv th root):
 Calls Tryz.prog 35 #[.pointer (some ⟨ub,0,none⟩)] w (gg w kb V (jr V.ker root c)):=by
 cases hfi:az V.ker root c.at_ with
 | none=>
  have hans:jr V.ker root c=none:=by simp [jr,hfi]
  rw [hans];have cat':=h.turn.cat;go_enter Tryz.func35,Tryz.ntmps35
  go_wp2_with fail
  refine h.find.mono ?_;rintro e W1 ⟨rfl,hf1⟩;rw [hfi];unfold bd gup;go_wp2;exact ⟨rfl,rfl,hf1⟩
 | some s=>
  cases hk:V.ker.held s with
  | none=>exact a81 V kb ub c av tv bv th root s w h hfi hk
  | some k=>
   cases hun:k.isU with
   | true=>
    cases k with
    | untyped b n m=>exact aw8 V kb ub c av tv bv th root s b n m w h hfi hk
    | _=>cases hun
   | false=>
    by_cases hr:0<=c.rights/\c.rights<=7
    ·cases hp:cj V.ker root c.to (fj k c.rights) s with
     | none=>exact bc9 V kb ub c av tv bv th root s k w h hfi hk hun hr hp (vm hun)
     | some p=>exact bl8 V kb ub c av tv bv th root s k p.1 p.2 w h hfi hk hun hr hp (vm hun)
    ·exact a07 V kb ub c av tv bv th root s k w h hfi hk hun hr (vm hun)
end Go.Proofs.YtdpjgflemddekaaGreatDoor
