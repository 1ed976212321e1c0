/- The document's answer: Do of the kinds 7 to 11. -/
import Derived.Test.YtdpjgflemddekaaGreatDoorMTRi
import Derived.Test.YtdpjgflemddekaaGreatDoorMTRn
import Derived.Test.YtdpjgflemddekaaGreatDoorMLawF0
import Derived.Test.YtdpjgflemddekaaGreatDoorMCodeZ1
import Derived.Test.YtdpjgflemddekaaGreatDoorMLoadA
set_option maxRecDepth 100000
set_option maxHeartbeats 4000000
namespace Go.Proofs.YtdpjgflemddekaaGreatDoor
open Go.RowKit
theorem by_ (S:RS)(V:ax)(kb:Nat)(b:Int)(c:Cl)(av tv:Value)(e:aw)(w:World)(h:RD w kb S V)(hnT:S.R.T.length<=900000)(hq:QIn S)(hbT:∃t∈S.R.T,t.base=b)(hk:c.kind=7\/c.kind=8)(hr:0<=e.rights/\e.rights<=7):
 Calls Tryz.prog 87 #[.pointer (some ⟨kb,0,none⟩),.int .i64 b,.agg (c.cells av tv),zy e] w (tk w kb V (fw S b c e)):=by
 by_cases hno:e.ty≠3\/qc e.rights (if c.kind=8 then 1 else 2)=true\/(c.kind=7/\(c.value<0\/4294967295<c.value))
 ·exact b02 S V kb b c av tv e w h hr hk hno
 ·have ht:e.ty=3:=Decidable.not_not.1 (fun h=>hno (.inl h))
  have hb:qc e.rights (if c.kind=8 then 1 else 2)=false:=by
   cases hx:qc e.rights (if c.kind=8 then 1 else 2) with
   | false=>rfl
   | true=>exact absurd (.inr (.inl hx)) hno
  rcases hk with hk | hk
  ·rw [hk] at hb;exact b52 S V kb b c av tv e w h hnT hq hbT hk ht hr hb (by have:¬(c.value<0\/4294967295<c.value):=fun h=>hno (.inr (.inr ⟨hk,h⟩));omega)
  ·rw [hk] at hb;exact b60 S V kb b c av tv e w h hnT hq hbT hk ht hr hb
structure bz9 (S:RS)(e:aw):Prop where
 r:0<=e.rights/\e.rights<=7
 f:e.ty=5->0<=e.base/\e.bits<=20/\e.base+pw e.bits.toNat<=1024
 t:e.ty=4->∃t∈S.R.T,t.base=e.base
theorem j2.held {S:RS}(h:j2 S)(i:Nat)(hi:i<S.R.L.length):bz9 S S.R.L[i]:=by
 obtain ⟨S',hA⟩:=h;obtain ⟨c,hc,ht⟩:=hA.core.rel.cap _ (List.getElem_mem hi);obtain ⟨t1,t2,t3,t4,_⟩:=ym ht;obtain ⟨h1,h2,h3,h4,_⟩:=hA.core.cap _ c hc;refine ⟨by rw [t4];exact hA.core.rt _ c hc,fun _=>?_,fun h=>?_⟩
 ·rw [t2,t3];exact ⟨h1,by omega,h4⟩
 ·rw [t1] at h;cases c with
  | task b n r=>
   obtain ⟨t,ht⟩:=hA.core.hth _ b n r hc;rw [hA.core.rel.thr] at ht;cases hf:S.R.T.find? (af b) with
   | none=>rw [hf] at ht;cases ht
   | some y=>exact ⟨y,List.mem_of_find?_eq_some hf,by rw [t2];exact (by simpa [af] using List.find?_some hf:y.base=b)⟩
  | _=>simp only [KCap.ty] at h;omega
def bg6:aw:=⟨0,0,0,0,0,0,0,0,0⟩
theorem bw5 (S:RS):bz9 S bg6:=⟨by decide,fun h=>absurd h (by decide),fun h=>absurd h (by decide)⟩
def y7 (S:RS)(b root:Int)(c:Cl)(e:aw):Int×Int×RS:=
 if c.kind=7\/c.kind=8 then (0,fw S b c e) else if c.kind=9\/c.kind=10 then lj S c e else (0,lc S root c e)
theorem bt9 (S:RS)(b root:Int)(c:Cl):y7 S b root c bg6=(0,3,S):=by
 unfold y7;split
 ·unfold fw;rw [if_pos (by decide)]
 ·split
  ·unfold lj;rw [if_pos (by decide)]
  ·unfold lc;rw [if_pos (by decide)]
def ax7 (w:World)(kb:Nat)(V:ax)(y:Int×Int×RS)(e':Ending)(w':World):Prop:=
 e'=.returned (.tuple #[.int .i64 y.1,.int .i64 y.2.1])/\∃V',fh w kb V y.2.2 V' w'
theorem b18 (S:RS)(V:ax)(kb:Nat)(b:Int)(c:Cl)(av tv:Value)(ba:Option Addr)(bn bc:Nat)(t:ej)(w:World)(h:RD w kb S V)(hG:j2 S)
 (hal:c.at_.length<=9000000000000000000) (hl:c.to.length<=9000000000000000000) (hav:ay w av c.at_) (htv:ay w tv c.to)
 (hda:0<c.at_.length->∀k,av.ownBlock=some k->¬V.fq kb k) (hdt:0<c.to.length->∀k,tv.ownBlock=some k->¬V.fq kb k)
 (hk:7<=c.kind/\c.kind<=11) (hfi:S.R.T.find? (af b)=some t) (hst:t.state=1) :
 Calls Tryz.prog 48 #[.pointer (some ⟨kb,0,none⟩),.int .i64 b,.agg (c.cells av tv),.slice ba bn bc] w (ax7 w kb V (ab6 S b c)):=by
 generalize hyy:ab6 S b c=y;have HYG:Hid (ab6 S b c=y):=hyy;clear hyy;have hct:=h.ref.ct;have hklt:kb<w.heap.size:=World.block_lt_of_cell? w _ hct;obtain ⟨b1,b2,b3,b4,b5,_,b7,b8⟩:=hG.bounds;obtain ⟨hRo,_⟩:=hG.ent;have hbT:∃t∈S.R.T,t.base=b:=⟨t,List.mem_of_find?_eq_some hfi,by simpa [af] using List.find?_some hfi⟩;have h1:=fun o:Obj=>h.ref.frame ((Fr.refl w (fun _=>False)).alloc o) (fun _ _=>id)
 rcases j6 (af b) S.R.T with ⟨hx,hfi2⟩ | ⟨p,hp,hx,hfi2,_⟩
 ·rw [hfi2] at hfi;cases hfi
 rw [hfi2] at hfi;cases hfi
 obtain ⟨g,cap,htv',hcap,hglt,t0,t1,t2,t3,t4,t5⟩:=iq h.ref p hp;rw [htv'] at hct;clear htv';rw [hst] at t1;have k1:(c.kind==1)=false:=by simp;omega
 have k2:(c.kind==2)=false:=by simp;omega
 have k3:(c.kind==3)=false:=by simp;omega
 have k4:(c.kind==4)=false:=by simp;omega
 have k5:(c.kind==5)=false:=by simp;omega
 have k6:(c.kind==6)=false:=by simp;omega
 have kl:1<=c.kind:=by omega
 have kh:c.kind<=11:=by omega
 rw [Cl.cells_eq];have hz9:w.frozen? ⟨kb,1029,none⟩=false:=h.ref.fz _;have hz0:w.frozen? ⟨kb,1030,none⟩=false:=h.ref.fz _;have hb9:=h.ref.cb;have hb0:=h.ref.cs;have HD:Hid (y=match bk S.R.L S.R.N S.R.T[p].root c.at_ with
  | none=>(0,2,S)
  | some (n,ix)=>match S.R.L.findIdx? (ee n ix) with
   | none=>(0,3,S)
   | some p'=>match S.R.L[p']? with
    | none=>(0,3,S)
    | some e=>y7 S b S.R.T[p].root c e):=by
  show _=_;rw [<- HYG.out];unfold ab6;rw [hfi2];simp only;rw [if_neg (by simp [hst])];rfl
 clear HYG;go_enter Tryz.func48,Tryz.ntmps48
 go_wp2_with fail
 refine (ek S.R.T kb V.tv b _ (by omega) (h1 _).ct (h1 _).ltt).mono ?_;rintro e w1 ⟨rfl,rfl⟩;unfold thI;rw [hx];go_wp2_with fail
 have h2:=(h.ref.setBS (.slice ba bn bc) (.bool false)).frame ((Fr.refl _ (fun _=>False)).alloc (Obj.cells #[.int .i64 c.kind,av,tv,.int .i64 c.ty,.int .i64 c.bits,.int .i64 c.count,.int .i64 c.rights,.int .i64 c.badge,.int .i64 c.value,.int .i64 c.offset] 41)) (fun _ _=>id);have hf2:Fr w (((w.setCell ⟨kb,1029,none⟩ (.slice ba bn bc)).setCell ⟨kb,1030,none⟩ (.bool false)).alloc (Obj.cells #[.int .i64 c.kind,av,tv,.int .i64 c.ty,.int .i64 c.bits,.int .i64 c.count,.int .i64 c.rights,.int .i64 c.badge,.int .i64 c.value,.int .i64 c.offset] 41)) (fun k=>k=kb):=
  (((Fr.refl w (fun k=>k=kb)).setCell (.inl rfl) _ _).setCell (.inl rfl) _ _).alloc _
 have hba:=heap_alloc_new ((w.setCell ⟨kb,1029,none⟩ (.slice ba bn bc)).setCell ⟨kb,1030,none⟩ (.bool false)) (Obj.cells #[.int .i64 c.kind,av,tv,.int .i64 c.ty,.int .i64 c.bits,.int .i64 c.count,.int .i64 c.rights,.int .i64 c.badge,.int .i64 c.value,.int .i64 c.offset] 41);rw [bu,bu] at hba;generalize ((w.setCell ⟨kb,1029,none⟩ (.slice ba bn bc)).setCell ⟨kb,1030,none⟩ (.bool false)).alloc (Obj.cells #[.int .i64 c.kind,av,tv,.int .i64 c.ty,.int .i64 c.bits,.int .i64 c.count,.int .i64 c.rights,.int .i64 c.badge,.int .i64 c.value,.int .i64 c.offset] 41)=W2 at *
 have hRD2:RD W2 kb S {V with bv:=.slice ba bn bc,sv:=.bool false}:=⟨h2,h.ws,hf2.owns h.d (fun k hk e=>h.dk k hk (.inl e)),h.dk,hf2.owns h.q (fun k hk e=>(h.qk k hk).1 (.inl e)),h.qk⟩
 have hO2:fh w kb V S {V with bv:=.slice ba bn bc,sv:=.bool false} W2:=⟨hRD2,hf2.mono (fun k hk=>.inl (.inl hk)),fun k hk=>.inl hk⟩
 have hav2:=hav.fr' hO2.fr hda;have htv2:=htv.fr' hO2.fr hdt;clear h2 hRD2 hf2 hav htv hda hdt hb9 hb0 hz9 hz0 h1 t0 t1 t2 t3 t4 t5 hct;generalize ({V with bv:=.slice ba bn bc,sv:=.bool false}:ax)=V2 at *
 refine (mb S.R.L S.R.N kb V2.lv V2.nv av S.R.T[p].root c.at_ W2 (by omega) (by omega) hal hO2.rd.ref.cl hO2.rd.ref.ll hO2.rd.ref.cn hO2.rd.ref.lnn hRo.b hav2).mono ?_;rintro e w3 ⟨rfl,q,rfl⟩;cases hf:bk S.R.L S.R.N S.R.T[p].root c.at_ with
 | none=>
  have HD2:Hid (y=(0,2,S)):=by show _=_;rw [HD.out,hf]
  dsimp only [ts];clear HD hf;go_wp2;go_ret2;rw [HD2.out];exact ⟨rfl,V2,hO2.drewN q⟩
 | some ni=>
  obtain ⟨n,ix⟩:=ni;have HD2:Hid (y=match S.R.L.findIdx? (ee n ix) with
   | none=>(0,3,S)
   | some p'=>match S.R.L[p']? with
    | none=>(0,3,S)
    | some e=>y7 S b S.R.T[p].root c e):=by show _=_;rw [HD.out,hf]
  dsimp only [ts];clear HD hf;go_wp2_with fail
  have hO3:=hO2.drewN q;have htv3:ay (W2.drewN q) tv c.to:=htv2;have hba3:(W2.drewN q).heap[w.heap.size]?=_:=hba;clear hO2 htv2 hba hav2;generalize W2.drewN q=W3 at *
  refine (jj S.R.L kb V2.lv n ix W3 (by omega) hO3.rd.ref.cl hO3.rd.ref.ll).mono ?_;rintro e w4 ⟨rfl,rfl⟩;have kk0:=aa (o:=0) hba3 rfl;have hsw:w.heap.size<w4.heap.size:=(Array.getElem?_eq_some_iff.1 hba3).1;have hkw:kb<w4.heap.size:=by omega
  go_upto_if 96 with fail
  go_cut [104] (fun _ wx=>∃e:aw,bz9 S e/\Hid (y=y7 S b S.R.T[p].root c e)/\wx.heap[w4.heap.size]?=some (.cells #[.int .i64 e.ty,.int .i64 e.base,.int .i64 e.bits,.int .i64 e.rights,.int .i64 e.badge,.int .i64 e.mark] 46)/\Fr w4 wx (fun _=>False))
  case first=>
   cases hidx:S.R.L.findIdx? (ee n ix) with
   | none=>
    have HX:Hid (atI S.R.L n ix=-1):=by show _=_;unfold atI;rw [hidx];rfl
    have HD3:Hid (y=y7 S b S.R.T[p].root c bg6):=by show _=_;rw [HD2.out,hidx,bt9]
    rw [HX.out];clear HD2 hidx;go_wp2;rw [<- HX.out];go_meet;case rel=>exact ⟨bg6,bw5 S,HD3,heap_alloc_new _ _,(Fr.refl _ _).alloc _⟩
   | some p2=>
    obtain ⟨hp2,_⟩:=List.findIdx?_eq_some_iff_getElem.1 hidx;have HX:Hid (atI S.R.L n ix=(p2:Int)):=by show _=_;unfold atI;rw [hidx];rfl
    have HD3:Hid (y=y7 S b S.R.T[p].root c S.R.L[p2]):=by show _=_;rw [HD2.out,hidx];simp only [List.getElem?_eq_getElem hp2]
    rw [HX.out];obtain ⟨g2,cap2,hlv2,hcap2,hglt2,d0,d1,d2,d3,d4,d5,d6,d7,d8⟩:=fe hO3.rd.ref p2 hp2;have hc3:=hO3.rd.ref.cl;rw [hlv2] at hc3;clear hlv2 HD2 hidx;go_wp2;rw [<- HX.out];go_meet;case rel=>exact ⟨S.R.L[p2],hG.held p2 hp2,HD3,heap_alloc_new _ _,(Fr.refl _ _).alloc _⟩
  case rest=>
   obtain ⟨e,hE,HY,hbE,hf4⟩:=hcut;have hO4:fh w kb V S V2 wc:=⟨hO3.rd.frame hf4 (fun _ _=>id),hO3.fr.step hf4 (fun _=>False.elim),hO3.new⟩;have hbC:=hf4.same hba3 id;have htv4:=htv3.fr hf4 (fun _ _=>id);clear hO3 hba3 htv3 HD2 kk0;obtain ⟨kk0,kk1,kk2,kk3,kk4,kk5,kk6,kk7,kk8,kk9⟩:=w_ hbC;obtain ⟨ee0,ee1,ee2,ee3,ee4,ee5⟩:=aa_ hbE;have hs1:w.heap.size<wc.heap.size:=(Array.getElem?_eq_some_iff.1 hbC).1;have hs2:w4.heap.size<wc.heap.size:=(Array.getElem?_eq_some_iff.1 hbE).1;by_cases e78:c.kind=7\/c.kind=8
   ·have HY2:Hid (y=(0,fw S b c e)):=by show _=_;rw [HY.out];unfold y7;rw [if_pos e78]
    have hT:=by_ S V2 kb b c av tv e wc hO4.rd b3 b8 hbT e78 hE.r;rw [Cl.cells_eq] at hT;unfold zy at hT;have hK:(c.kind==7)=true\/((c.kind==7)=false/\(c.kind==8)=true):=by
     rcases e78 with e | e
     ·left;rw [e];rfl
     ·right;rw [e];exact ⟨rfl,rfl⟩
    clear HY e78 hk kl kh;rcases hK with k7 | ⟨k7,k8⟩;all_goals
     go_wp2_with (go_at_call 87;go_must (refine hT.mono ?_);rintro e' W6 ⟨rfl,V6,hO6⟩)
     go_ret2;rw [HY2.out];exact ⟨rfl,V6,hO4.trans hO6⟩
   have k7:(c.kind==7)=false:=by simp;omega
   have k8:(c.kind==8)=false:=by simp;omega
   by_cases e90:c.kind=9\/c.kind=10
   ·have HY2:Hid (y=lj S c e):=by show _=_;rw [HY.out];unfold y7;rw [if_neg e78,if_pos e90]
    have hT:=bw8 S V2 kb c av tv e wc hO4.rd e90 hE.r hE.f;rw [Cl.cells_eq] at hT;unfold zy at hT;have hK:(c.kind==9)=true\/((c.kind==9)=false/\(c.kind==10)=true):=by
     rcases e90 with e | e
     ·left;rw [e];rfl
     ·right;rw [e];exact ⟨rfl,rfl⟩
    clear HY e78 e90 hk kl kh;rcases hK with k9 | ⟨k9,k10⟩;all_goals
     go_wp2_with (go_at_call 88;go_must (refine hT.mono ?_);rintro e' W6 ⟨rfl,V6,hO6⟩)
     go_ret2;rw [HY2.out];exact ⟨rfl,V6,hO4.trans hO6⟩
   have k9:(c.kind==9)=false:=by simp;omega
   have k10:(c.kind==10)=false:=by simp;omega
   have HY2:Hid (y=(0,lc S S.R.T[p].root c e)):=by show _=_;rw [HY.out];unfold y7;rw [if_neg e78,if_neg e90]
   have hT:=bq4 S V2 kb S.R.T[p].root c av tv e wc hO4.rd b1 b2 b3 hRo.b hl htv4 hE.t;rw [Cl.cells_eq] at hT;unfold zy at hT;clear HY e78 e90 hk kl kh;go_wp2_with (go_at_call 89;go_must (refine hT.mono ?_);rintro e' W6 ⟨rfl,V6,hO6⟩)
   go_ret2;rw [HY2.out];exact ⟨rfl,V6,hO4.trans hO6⟩
theorem b72 (S:RS)(V:ax)(kb:Nat)(b:Int)(c:Cl)(av tv bv:Value)(bs:List Bool)(w:World)(h:RD w kb S V)(hG:j2 S)
 (hal:c.at_.length<=9000000000000000000) (hl:c.to.length<=9000000000000000000) (hav:ay w av c.at_) (htv:ay w tv c.to) (hbv:eo w bv bs)
 (hda:0<c.at_.length->∀k,av.ownBlock=some k->¬V.fq kb k) (hdt:0<c.to.length->∀k,tv.ownBlock=some k->¬V.fq kb k) (hdb:∀g,bv.ownBlock=some g->0<bs.length->¬V.fq kb g/\g<w.heap.size) :
 Calls Tryz.prog 48 #[.pointer (some ⟨kb,0,none⟩),.int .i64 b,.agg (c.cells av tv),bv] w (ax7 w kb V (ww S b c bs)):=by
 by_cases hk:7<=c.kind/\c.kind<=11
 ·rw [show ww S b c bs=ab6 S b c from if_pos hk];by_cases hno:∀t,S.R.T.find? (af b)=some t->t.state≠1
  ·refine (bs4 S.R V kb b c av tv _ w h.ref (hG.ent).1.o (fun t ht=>.inl (hno t ht))).mono ?_
   rintro e w' ⟨rfl,V',h1,h2,h3,h4,h5,h6⟩;have hd:ab6 S b c=(0,1,S)/\doR S.R b c=(1,S.R):=by
    unfold ab6 doR;cases hf:S.R.T.find? (af b) with
    | none=>exact ⟨rfl,rfl⟩
    | some t=>
     simp only;rw [if_pos (hno t hf),if_pos (hno t hf)];exact ⟨rfl,rfl⟩
   rw [hd.2] at h1 ⊢;rw [hd.1];exact ⟨rfl,V',fh.of h h1 h2 h3 h4 h5 h6⟩
  ·simp only [Classical.not_forall] at hno;obtain ⟨t,ht,hn⟩:=hno;obtain ⟨ba,bcap,rfl,_⟩:=id hbv;exact b18 S V kb b c av tv ba bs.length bcap t w h hG hal hl hav htv hda hdt hk ht (Decidable.not_not.1 hn)
 ·rw [show ww S b c bs=(0,p_ S b c bs) from if_neg hk];exact b25 S V kb b c av tv bv bs w h hG hal hl hav htv hbv hda hdt hdb (by omega)
structure cy where
 sb:Nat
 kx:Nat
 ky:Nat
 VK:ah
 R:dq
 dm:List (Int×Int)
 ws:Nat->Int
 q:List Wt
 VR:ax
def cy.fp (D:cy)(k:Nat):Prop:=k=D.sb\/D.VK.fd D.kx k\/D.VR.fq D.ky k
structure e_ (w:World)(D:cy):Prop where
 side:a79 w D.sb D.kx D.ky
 kd:KD w D.kx ⟨D.VK.ker,D.dm⟩ D.VK
 rd:RD w D.ky ⟨D.R,D.dm,D.ws,D.q⟩ D.VR
 ag:Ag ⟨D.R,D.dm,D.ws,D.q⟩ ⟨D.VK.ker,D.dm⟩
 ge:∀k,D.VK.fd D.kx k->2<=k
 wb:∀i,0<=D.ws i/\D.ws i<=4294967295
 a1:¬D.VK.fd D.kx D.sb
 a2:¬D.VR.fq D.ky D.sb
 a3:∀k,D.VK.fd D.kx k->¬D.VR.fq D.ky k
theorem e_.ker {w:World}{D:cy}(h:e_ w D):aq w D.kx D.VK:=h.kd.ker
theorem e_.ref {w:World}{D:cy}(h:e_ w D):aj w D.ky D.R D.VR:=h.rd.ref
theorem e_.inv {w:World}{D:cy}(h:e_ w D):bq D.R D.VK.ker D.dm:=h.ag.core
theorem e_.good {w:World}{D:cy}(h:e_ w D):cm ⟨D.VK.ker,D.dm⟩:=⟨_,h.ag⟩
theorem KD.fdLt {w:World}{kb:Nat}{S:KS}{V:ah}(h:KD w kb S V){k:Nat}(hk:V.fd kb k):k<w.heap.size:=by
 rcases hk with e | e
 ·exact h.ker.fpLt e
 ·exact (h.d.lt k e).2
theorem e_.lt {w:World}{D:cy}(h:e_ w D){k:Nat}(hk:D.fp k):k<w.heap.size:=by
 rcases hk with rfl | hk | hk
 ·exact (Array.getElem?_eq_some_iff.1 h.side).1
 ·exact h.kd.fdLt hk
 ·exact h.rd.fqLt hk
theorem e_.frame {w w':World}{D:cy}{S:Nat->Prop}(h:e_ w D)(hf:Fr w w' S)(hs:∀k,D.fp k->¬S k):e_ w' D:=
 ⟨hf.same h.side (hs _ (.inl rfl)),h.kd.frame hf (fun k hk=>hs k (.inr (.inl hk))),h.rd.frame hf (fun k hk=>hs k (.inr (.inr hk))),h.ag,h.ge,h.wb,h.a1,h.a2,h.a3⟩
structure fi (w:World)(wb:Nat)(U:co)(D:cy):Prop where
 law:io w wb U
 good:np w U
 sd:e_ w D
 sep:∀k,D.fp k->¬U.fp wb k/\¬U.cb k
 m1:(U.rl 1).length % 4=0
 m2:(U.rl 2).length % 4=0
structure gj (w:World)(wb:Nat)(U:co)(D:cy)(U':co)(D':cy)(w':World):Prop where
 at_:fi w' wb U' D'
 fr:Fr w w' (fun k=>U.fp wb k\/D.fp k)
 fpU:∀k,U'.fp wb k->U.fp wb k\/w.heap.size<=k
 cbU:∀k,U'.cb k->U.cb k\/w.heap.size<=k
 fpD:∀k,D'.fp k->D.fp k\/w.heap.size<=k
 sb:D'.sb=D.sb
 r0:U'.rl 0=U.rl 0
 len:∀j,j<6->(U'.rl j).length<=(U.rl j).length+4
theorem fi.frame {w w':World}{wb:Nat}{U:co}{D:cy}(h:fi w wb U D)(hf:Fr w w' (fun _=>False)):fi w' wb U D:=
 ⟨h.law.frame hf (fun _ _=>id),h.good.frame hf (fun _ _=>id),h.sd.frame hf (fun _ _=>id),h.sep,h.m1,h.m2⟩
theorem gj.same {w w':World}{wb:Nat}{U:co}{D:cy}(h:fi w wb U D)(hf:Fr w w' (fun _=>False)):gj w wb U D U D w':=
 ⟨h.frame hf,hf.mono (fun _=>False.elim),fun _ hk=>.inl hk,fun _ hk=>.inl hk,fun _ hk=>.inl hk,rfl,rfl,fun _ _=>by omega⟩
theorem np.addE {w w':World}{wb:Nat}{U U':co}{vs:List Value}{X:Nat->Prop}(hL:io w wb U)(h:np w U)(ha:af5 w wb U U' 1 vs X w')(hX:∀k,X k->¬U.cb k)(hl:vs.length=4)
 (hf:∀v∈vs,jb w' (oj (-1-((U.rl 1).length:Int))) v) (hm:(U.rl 1).length % 4=0):np w' U':=by
 have h1:=h.frame ha.out.fr (fun k hk hs=>by rcases hs with e | e;exact hL.cont k hk e;exact hX k e hk);refine ⟨fun i v hv=>?_,fun i v hv=>h1.d i v (by rw [ha.rl] at hv;simpa using hv),fun i v hv=>h1.i i v (by rw [ha.rl] at hv;simpa using hv),by rw [ha.rl];simpa using h1.bx,fun i v x hv hx=>h1.b i v x (by rw [ha.rl] at hv;simpa using hv) (by rw [ha.rl] at hx;simpa using hx)⟩
 rw [ha.rl] at hv;simp only [if_true] at hv;by_cases hi:i<(U.rl 1).length
 ·exact h1.e i v (by rw [List.getElem?_append_left hi] at hv;exact hv)
 ·rw [List.getElem?_append_right (by omega)] at hv;have hlt:=(List.getElem?_eq_some_iff.1 hv).1;have e:i / 4*4=(U.rl 1).length:=by omega
  rw [e];exact hf v (l5 hv)
theorem np.addD {w w':World}{wb:Nat}{U U':co}{vs:List Value}{X:Nat->Prop}(hL:io w wb U)(h:np w U)(ha:af5 w wb U U' 2 vs X w')(hX:∀k,X k->¬U.cb k)(hl:vs.length=4)
 (hf:∀v∈vs,jb w' (lp (-1-((U.rl 2).length:Int))) v) (hm:(U.rl 2).length % 4=0):np w' U':=by
 have h1:=h.frame ha.out.fr (fun k hk hs=>by rcases hs with e | e;exact hL.cont k hk e;exact hX k e hk);refine ⟨fun i v hv=>h1.e i v (by rw [ha.rl] at hv;simpa using hv),fun i v hv=>?_,fun i v hv=>h1.i i v (by rw [ha.rl] at hv;simpa using hv),by rw [ha.rl];simpa using h1.bx,fun i v x hv hx=>h1.b i v x (by rw [ha.rl] at hv;simpa using hv) (by rw [ha.rl] at hx;simpa using hx)⟩
 rw [ha.rl] at hv;simp only [if_true] at hv;by_cases hi:i<(U.rl 2).length
 ·exact h1.d i v (by rw [List.getElem?_append_left hi] at hv;exact hv)
 ·rw [List.getElem?_append_right (by omega)] at hv;have hlt:=(List.getElem?_eq_some_iff.1 hv).1;have e:i / 4*4=(U.rl 2).length:=by omega
  rw [e];exact hf v (l5 hv)
theorem fi.other {w w':World}{wb:Nat}{U U':co}{D D' E:cy}(h:fi w wb U E)(hd:∀k,E.fp k->¬D.fp k)(hO:gj w wb U D U' D' w'):fi w' wb U' E/\∀k,E.fp k->¬D'.fp k:=by
 refine ⟨⟨hO.at_.law,hO.at_.good,h.sd.frame hO.fr (fun k hk e=>e.elim (h.sep k hk).1 (hd k hk)),fun k hk=>⟨fun e=>?_,fun e=>?_⟩,hO.at_.m1,hO.at_.m2⟩,fun k hk e=>?_⟩
 ·rcases hO.fpU k e with e | e
  ·exact (h.sep k hk).1 e
  ·have:=h.sd.lt hk;omega
 ·rcases hO.cbU k e with e | e
  ·exact (h.sep k hk).2 e
  ·have:=h.sd.lt hk;omega
 ·rcases hO.fpD k e with e | e
  ·exact hd k hk e
  ·have:=h.sd.lt hk;omega
theorem fi.kept {w W w':World}{wb:Nat}{U U':co}{D:cy}{li:Nat}{vs:List Value}{X:Nat->Prop}(h:fi w wb U D)(hf:Fr w W (fun _=>False))(ha:af5 W wb U U' li vs X w')(hX:∀k,X k->w.heap.size<=k)(hl:vs.length=4)(hli:li=1\/li=2)
 (hg:np w' U'):gj w wb U D U' D w':=by
 have ho:=ha.out;have hfr:Fr w w' (fun k=>U.fp wb k\/D.fp k):=(hf.mono (fun _=>False.elim)).step ho.fr (fun k hk=>by rcases hk with e | e;exact .inl (.inl e);exact .inr (hX k e))
 have hsz:=hf.size;refine ⟨⟨ho.at_,hg,h.sd.frame ((hf.mono (fun _=>False.elim):Fr w W (fun k=>U.fp wb k\/X k)).step ho.fr (fun k hk=>.inl hk)) (fun k hk hs=>?_),fun k hk=>⟨fun e=>?_,fun e=>?_⟩,?_,?_⟩,hfr,fun k hk=>(ho.fp k hk).imp id (fun e=>by omega),fun k hk=>?_,fun k hk=>.inl hk,rfl,?_,?_⟩
 ·rcases hs with e | e
  ·exact (h.sep k hk).1 e
  ·have:=h.sd.lt hk;have:=hX k e;omega
 ·rcases ho.fp k e with e | e
  ·exact (h.sep k hk).1 e
  ·have:=h.sd.lt hk;omega
 ·rcases ho.cb k e with e | e | e
  ·exact (h.sep k hk).2 e
  ·have:=h.sd.lt hk;have:=hX k e;omega
  ·have:=h.sd.lt hk;omega
 ·rw [ha.rl];have:=h.m1;rcases hli with rfl | rfl
  ·simp [hl];omega
  ·simpa using this
 ·rw [ha.rl];have:=h.m2;rcases hli with rfl | rfl
  ·simpa using this
  ·simp [hl];omega
 ·rcases ho.cb k hk with e | e | e
  ·exact .inl e
  ·exact .inr (hX k e)
  ·exact .inr (by omega)
 ·rw [ha.rl];rcases hli with rfl | rfl<;>simp
 ·intro j hj;rw [ha.rl];dsimp only;split
  ·rw [List.length_append,hl];omega
  ·omega
structure b69 (w:World)(g o:Nat)(e:ov):Prop where
 c0:w.cell? ⟨g,o,none⟩=some (.int .i64 e.node)
 c1:w.cell? ⟨g,o+1,none⟩=some (.int .i64 e.index)
 c2:w.cell? ⟨g,o+2,none⟩=some (.int .i64 e.ty)
 c3:w.cell? ⟨g,o+3,none⟩=some (.int .i64 e.base)
 c4:w.cell? ⟨g,o+4,none⟩=some (.int .i64 e.bits)
 c5:w.cell? ⟨g,o+5,none⟩=some (.int .i64 e.rights)
 c6:w.cell? ⟨g,o+6,none⟩=some (.int .i64 e.badge)
 c7:w.cell? ⟨g,o+7,none⟩=some (.int .i64 e.mark)
 c8:w.cell? ⟨g,o+8,none⟩=some (.int .i64 e.parent)
 c9:w.cell? ⟨g,o+9,none⟩=some (.int .i64 e.place)
theorem aw9 {w:World}{g:Nat}{L:List ov}(h:∀i (hi:i<L.length) j x,(L[i].vals)[j]?=some x->w.cell? ⟨g,i*10+j,none⟩=some x)(i:Nat)(hi:i<L.length):b69 w g (i*10) L[i]:=
 ⟨h i hi 0 _ rfl,h i hi 1 _ rfl,h i hi 2 _ rfl,h i hi 3 _ rfl,h i hi 4 _ rfl,h i hi 5 _ rfl,h i hi 6 _ rfl,h i hi 7 _ rfl,h i hi 8 _ rfl,h i hi 9 _ rfl⟩
theorem e_.caps {w:World}{D:cy}(h:e_ w D)(hgl:ev w):
 Calls Tryz.prog 13 #[.pointer (some ⟨D.kx,0,none⟩)] w fun e w'=>∃v,e=.returned v/\w'.ownsRow w.heap.size 48 10 v D.R.L.length (sf (jk D.R.L D.R.L.length))/\Fr w w' (fun _=>False):=by
 obtain ⟨F,hF⟩:=h.inv.rel.tree;obtain ⟨y,hy,hk⟩:=hF.roots;obtain ⟨x,hx,hp,hkx⟩:=rp (V:=D.VK) (s:=nowhere) (x:=y) hy;have hcaps:=h.inv.rel.caps hF;have hl:F.slots.length=D.R.L.length:=by rw [hF.slots];simp
 refine (ar1 D.VK D.kx w h.ker hgl F x hF.stands hx (hkx.trans hk) (fun s hs=>(mz h.inv.rel hF).1 hs) (by have:=h.inv.len;omega)).mono ?_
 rintro e w' ⟨v,he,ho,hf⟩;refine ⟨v,he,?_,hf⟩;rw [hcaps,hl] at ho;exact ho
theorem ar8 (wb:Nat)(U:co)(D:cy)(w:World)(h:fi w wb U D)(hgl:ev w)(hn:∀j,j<6->(U.rl j).length<=4000000000000):
 Calls Tryz.prog 28 #[.pointer (some ⟨wb,0,none⟩),.pointer (some ⟨D.sb,0,none⟩)] w fun e w'=>e=.returned (.bool true)/\∃U',gj w wb U D U' D w':=by
 have s0:w.cell? ⟨D.sb,0,none⟩=some (.pointer (some ⟨D.kx,0,none⟩)):=aa (o:=0) h.sd.side rfl;have s1:w.cell? ⟨D.sb,1,none⟩=some (.pointer (some ⟨D.ky,0,none⟩)):=aa (o:=1) h.sd.side rfl;have hlen:=h.sd.inv.len;have hup:=fun i hi=>h.sd.inv.up i hi
 generalize hL:jk D.R.L D.R.L.length=L;have hLl:L.length=D.R.L.length:=by rw [<- hL];exact vh _ _ (Nat.le_refl _)
 have hcap:=h.sd.caps hgl;rw [hL] at hcap;go_enter Tryz.func28,Tryz.ntmps28
 go_upto_region 2 with (go_at_call 13;refine hcap.mono ?_;rintro e W1 ⟨lv,rfl,hl1,hf1⟩)
 clear hcap;have s1':=hf1.cell s1 id;have hcr:=bl2 D.R D.VR D.ky W1 (h.sd.ref.frame hf1 (fun _ _=>id)) (by omega) (fun i hi=>by have:=hup i hi;omega);rw [hL] at hcr;go_upto_region 3 with (go_at_call 52;refine hcr.mono ?_;rintro e W2 ⟨mv,rfl,hm2,hf2⟩)
 clear hcr;have hl2:=hf2.owns hl1 (fun _ _=>id);have hf02:Fr w W2 (fun _=>False):=hf1.step hf2 (fun _=>False.elim);rw [<- hLl] at hl2 hm2;obtain ⟨A,cap,rfl,hA⟩:=bm (f:=ov.vals) ov.vals_len hl2;obtain ⟨B,cap2,rfl,hB⟩:=bm (f:=ov.vals) ov.vals_len hm2;have hlL:L.length<=16384:=by omega
 have hlA:∀k,(Value.slice A L.length cap).ownBlock=some k->w.heap.size<=k:=fun k hk=>(hl2.lt k hk).1
 have hl3:=jn hl2 (Nat.zero_le _);clear hL hLl hup hlen hl1 hm2 hl2 s1';go_wp2;go_loopw [7,8] (fun ok i w'=>(∃q,w'=W2.drewN q)/\ok=.bool true/\∃k:Nat,k<=L.length/\i=.int .i64 k) (fun _ i _=>L.length-(intOf i).toNat)
 case atStart=>exact ⟨⟨0,rfl⟩,rfl,0,Nat.zero_le _,rfl⟩
 case round=>
  obtain ⟨⟨q,rfl⟩,rfl,k,hk,rfl⟩:=hrel;by_cases hlt:k<L.length
  ·obtain ⟨g,rfl,hc⟩:=hA (by omega);obtain ⟨g2,rfl,hc2⟩:=hB (by omega);obtain ⟨e0,e1,e2,e3,e4,e5,e6,e7,e8,e9⟩:=aw9 hc k hlt;obtain ⟨d0,d1,d2,d3,d4,d5,d6,d7,d8,d9⟩:=aw9 hc2 k hlt;clear hA hB hc hc2;go_wp2;go_quiet (fail)
   go_wp2;go_roundw;case rel=>exact ⟨⟨_,rfl⟩,rfl,k+1,by omega,by go_num⟩
   case measure=>simp [intOf];omega
  ·have hf3:Fr w (W2.drewN q) (fun _=>False):=hf02.drewN q;have hl4:(W2.drewN q).ownsRow 0 48 10 (.slice A L.length cap) L.length (sf L):=hl3;clear hA hB hl3;generalize W2.drewN q=W3 at *
   have hkept:=uu wb U W3 (h.law.frame hf3 (fun _ _=>id)) (h.good.frame hf3 (fun _ _=>id)) (fun j hj=>by have:=hn j hj;omega);go_upto_region 9 with (go_at_call 16;refine hkept.mono ?_;rintro e W4 ⟨rfl,q4,rfl⟩)
   have hf4:Fr w (W3.drewN q4) (fun _=>False):=hf3.drewN q4;have hl5:(W3.drewN q4).ownsRow 0 48 10 (.slice A L.length cap) L.length (sf L):=hl4;clear hkept hl4;generalize W3.drewN q4=W5 at *
   have hke:=bj0 wb U W5 (h.law.frame hf4 (fun _ _=>id)) _ _ _ hl5 (fun k hk e=>by have:=h.law.lt e;have:=hlA k hk;omega) (by omega) (by have:=hn 1 (by omega);omega);go_wp2_with (go_at_call 53;refine hke.mono ?_;rintro e W6 ⟨rfl,U',vs,hv4,hadd,hfil⟩)
   go_ret;refine ⟨rfl,U',h.kept hf4 hadd hlA hv4 (.inl rfl) ?_⟩;exact np.addE (h.law.frame hf4 (fun _ _=>id)) (h.good.frame hf4 (fun _ _=>id)) hadd (fun k hk e=>by have:=h.law.clt k e;have:=hlA k hk;omega) hv4 hfil h.m1
theorem ba_ (D:List (Int×Int)):∀u∈ez D,u.oneCell'=true:=by
 intro u hu;simp only [ez,List.mem_flatMap] at hu;obtain ⟨d,_,hu⟩:=hu;simp at hu;rcases hu with rfl | rfl<;>rfl
theorem ar0 (w:World):(w.alloc (.cells #[] 116)).ownsRow w.heap.size 116 2 (.slice (some ⟨w.heap.size,0,none⟩) 0 0) 0 []:=
 ⟨rfl,.inr ⟨w.heap.size,0,#[],rfl,Nat.le_refl _,heap_alloc_new _ _,Nat.le_refl _,by unfold maxLen;omega,rfl,rfl⟩⟩
theorem bn6 (g n cap:Nat)(row:List Value)(w:World)(hl:n<=900000)(hd:w.ownsRow 0 116 2 (.slice (some ⟨g,0,none⟩) n cap) n row)(hone:∀u∈row,u.oneCell'=true):
 Calls Tryz.prog 90 #[.slice (some ⟨g,0,none⟩) n cap] w fun e w'=>∃v,e=.returned v/\w'.ownsRow w.heap.size 116 2 v n row/\Fr w w' (fun _=>False):=by
 have hne:∀W,(binOp .eql 67 (.slice (some ⟨g,0,none⟩) n cap) (.slice none 0 0)).run Tryz.prog W=.ok (.bool false) W:=fun W=>by kernel_rfl
 obtain ⟨iD,hiD,hD0,hD1,hD2⟩:=info_parts a68;by_cases h0:n=0
 ·subst h0;have hr:row=[]:=List.eq_nil_of_length_eq_zero (by simpa using hd.1);subst hr;go_enter Tryz.func90,Tryz.ntmps90
  go_wp2;go_ret;exact ⟨_,rfl,ar0 w,(Fr.refl _ _).alloc _⟩
 ·have hdw:(w.alloc (.cells #[] 116)).ownsRow 0 116 2 (.slice (some ⟨g,0,none⟩) n cap) n row:=World.ownsRow.alloc hd _;have hpre:=ar0 w;obtain ⟨W,HW⟩:∃W,Hid (w.alloc (.cells #[] 116)=W):=⟨_,rfl⟩;have hFW:Fr w W (fun _=>False):=by rw [<- HW.out];exact (Fr.refl _ _).alloc _
  have hlW:w.heap.size<W.heap.size:=by rw [<- HW.out];simp
  rw [HW.out] at hdw hpre;go_enter Tryz.func90,Tryz.ntmps90
  go_wp2_with (at_builtin;rw [HW.out];go_must (refine wpList_append_lies _ rfl _ _ 67 rfl w.heap.size 116 iD _ 2 16 Tryz.underlying67 hiD hD0 hD1 hD2 rfl (by decide) (.slice (some ⟨w.heap.size,0,none⟩) 0 0) 0 [] rfl hpre ⟨g,0,none⟩ n cap row rfl hdw.1 (hdw.cells rfl) hone (by omega) (by unfold maxLen;omega) (by omega) (by omega) W.heap.size rfl ?_);intro g' c' W1 hown1 hg1 hat1 _)
  have hfr:Fr W W1 (fun k=>k=w.heap.size):=(Fr.refl _ _).grown hg1 (fun k hk=>.inl (by simpa [Value.ownBlock] using hk.symm))
  have hF:=hFW.step hfr (fun k hk=>.inr (by omega))
  rw [Nat.zero_add,List.nil_append] at hown1;clear hg1 hat1 hpre hdw hne;go_wp2;go_ret;exact ⟨_,by first | rfl | (rw [Nat.zero_add];rfl),hown1,hF⟩
theorem a41 (S:KS)(V:ah)(kb:Nat)(w:World)(h:KD w kb S V)(hl:S.D.length<=900000):
 Calls Tryz.prog 54 #[.pointer (some ⟨kb,0,none⟩)] w fun e w'=>∃v,e=.returned v/\w'.ownsRow w.heap.size 116 2 v S.D.length (ez S.D)/\Fr w w' (fun _=>False):=by
 rcases h.d.2 with ⟨e,e2⟩ | ⟨g,cap,cur,e,_⟩
 ·refine (bc8 V kb w h.ker e).mono ?_;rintro e w' ⟨he,hf⟩;have:S.D=[]:=List.eq_nil_of_length_eq_zero e2;rw [this];exact ⟨_,he,World.ownsRow_nil _ _ _ _,hf⟩
 ·have e:V.dv=.slice (some ⟨g,0,none⟩) S.D.length cap:=e;obtain ⟨c,hc,hcc⟩:=h.ker.blk;have hd:=h.d;rw [e] at hd;have c1:w.cell? ⟨kb,1027,none⟩=some (.slice (some ⟨g,0,none⟩) S.D.length cap):=by rw [<- e];exact aa hc hcc.d
  have hcl:=bn6 g S.D.length cap (ez S.D) w hl hd (ba_ _);clear hd hc hcc e;generalize S.D.length=n at *
  generalize ez S.D=row at *
  go_enter Tryz.func54,Tryz.ntmps54
  go_wp2_with (go_at_call 90;refine hcl.mono ?_;rintro e w' ⟨v,rfl,hv,hf⟩)
  go_ret;exact ⟨v,rfl,hv,hf⟩
theorem bs_ {w:World}{g:Nat}{L:List (Int×Int)}(h:∀i (hi:i<L.length) j x,(sg L[i])[j]?=some x->w.cell? ⟨g,i*2+j,none⟩=some x)(i:Nat)(hi:i<L.length):w.cell? ⟨g,i*2,none⟩=some (.int .i64 L[i].1)/\w.cell? ⟨g,i*2+1,none⟩=some (.int .i64 L[i].2):=
 ⟨h i hi 0 _ rfl,h i hi 1 _ rfl⟩
theorem ah1 (wb:Nat)(U:co)(D:cy)(w:World)(h:fi w wb U D)(hn:∀j,j<6->(U.rl j).length<=4000000000000):
 Calls Tryz.prog 29 #[.pointer (some ⟨wb,0,none⟩),.pointer (some ⟨D.sb,0,none⟩)] w fun e w'=>e=.returned (.bool true)/\∃U',gj w wb U D U' D w':=by
 have s0:w.cell? ⟨D.sb,0,none⟩=some (.pointer (some ⟨D.kx,0,none⟩)):=aa (o:=0) h.sd.side rfl;have s1:w.cell? ⟨D.sb,1,none⟩=some (.pointer (some ⟨D.ky,0,none⟩)):=aa (o:=1) h.sd.side rfl;have hlD:D.dm.length<=16384:=by have:=h.sd.inv.lenD;omega
 have hdo:=a41 ⟨D.VK.ker,D.dm⟩ D.VK D.kx w h.sd.kd (by simp only;omega);simp only at hdo;go_enter Tryz.func29,Tryz.ntmps29
 go_upto_region 2 with (go_at_call 54;refine hdo.mono ?_;rintro e W1 ⟨lv,rfl,hl1,hf1⟩)
 clear hdo;have s1':=hf1.cell s1 id;have hmd:w.ownsRow 0 116 2 D.VR.dv D.dm.length (D.dm.flatMap sg):=h.sd.rd.d;have d1:W1.cell? ⟨D.ky,1028,none⟩=some D.VR.dv:=by
  obtain ⟨c,hc,hcc⟩:=h.sd.ref.blk;exact aa (hf1.same hc id) hcc.d
 have hmd1:=hf1.owns hmd (fun _ _=>id);obtain ⟨A,cap,rfl,hA⟩:=bm (f:=sg) t_ hl1;obtain ⟨B,cap2,hdv,hB⟩:=bm (f:=sg) t_ hmd1;rw [hdv] at d1;have hlA:∀k,(Value.slice A D.dm.length cap).ownBlock=some k->w.heap.size<=k:=fun k hk=>(hl1.lt k hk).1
 have hl3:=jn hl1 (Nat.zero_le _);obtain ⟨L,HL⟩:∃L,Hid (D.dm=L):=⟨_,rfl⟩;rw [HL.out] at hlD hlA hl3 d1;simp only [HL.out] at hA hB;rw [HL.out];clear hdv hmd hmd1 hl1;go_upto_region 4 with fail
 clear d1 s1';go_wp2;go_loopw [7,8] (fun ok i w'=>(∃q,w'=W1.drewN q)/\ok=.bool true/\∃k:Nat,k<=L.length/\i=.int .i64 k) (fun _ i _=>L.length-(intOf i).toNat)
 case atStart=>exact ⟨⟨0,rfl⟩,rfl,0,Nat.zero_le _,rfl⟩
 case round=>
  obtain ⟨⟨q,rfl⟩,rfl,k,hk,rfl⟩:=hrel;by_cases hlt:k<L.length
  ·obtain ⟨g,rfl,hc⟩:=hA (by omega);obtain ⟨g2,rfl,hc2⟩:=hB (by omega);obtain ⟨e0,e1⟩:=bs_ hc k hlt;obtain ⟨d0,d1⟩:=bs_ hc2 k hlt;clear hA hB hc hc2;go_wp2;go_quiet (fail)
   go_wp2;go_roundw;case rel=>exact ⟨⟨_,rfl⟩,rfl,k+1,by omega,by go_num⟩
   case measure=>simp [intOf];omega
  ·have hf3:Fr w (W1.drewN q) (fun _=>False):=hf1.drewN q;have hl4:(W1.drewN q).ownsRow 0 116 2 (.slice A L.length cap) L.length (ez L):=hl3;clear hA hB hl3;generalize W1.drewN q=W3 at *
   have hkept:=uu wb U W3 (h.law.frame hf3 (fun _ _=>id)) (h.good.frame hf3 (fun _ _=>id)) (fun j hj=>by have:=hn j hj;omega);go_upto_region 9 with (go_at_call 16;refine hkept.mono ?_;rintro e W4 ⟨rfl,q4,rfl⟩)
   have hf4:Fr w (W3.drewN q4) (fun _=>False):=hf3.drewN q4;have hl5:(W3.drewN q4).ownsRow 0 116 2 (.slice A L.length cap) L.length (ez L):=hl4;clear hkept hl4;generalize W3.drewN q4=W5 at *
   have hke:=bl5 wb U W5 (h.law.frame hf4 (fun _ _=>id)) _ _ _ hl5 (fun k hk e=>by have:=h.law.lt e;have:=hlA k hk;omega) (by omega) (by have:=hn 2 (by omega);omega);go_wp2_with (go_at_call 55;refine hke.mono ?_;rintro e W6 ⟨rfl,U',vs,hv4,hadd,hfil⟩)
   go_ret;refine ⟨rfl,U',h.kept hf4 hadd hlA hv4 (.inr rfl) ?_⟩;exact np.addD (h.law.frame hf4 (fun _ _=>id)) (h.good.frame hf4 (fun _ _=>id)) hadd (fun k hk e=>by have:=hlA k hk;have:=h.law.clt k e;omega) hv4 hfil h.m2
def wt (ask th:Int)(c:Cl)(av tv bv:Value)(n:Int)(which:Bool):Value:=
 .agg #[.int .i64 ask,.int .i64 th,.int .i64 c.kind,av,tv,.int .i64 c.ty,.int .i64 c.bits,.int .i64 c.count,.int .i64 c.rights,.int .i64 c.badge,.int .i64 c.value,.int .i64 c.offset,bv,.int .i64 n,.bool which]
theorem bm9:(Tryz.prog.info? 54).map (fun i=>(i.zero,i.size,i.bytes))=some (some (.slice none 0 0),1,24):=by kernel_rfl
theorem a26:(Tryz.prog.info? 4).map (fun i=>(i.zero,i.size,i.bytes))=some (some (.bool false),1,1):=by kernel_rfl
theorem a55:(Tryz.prog.info? 4).map (·.size)=some 1:=by kernel_rfl
theorem e_.after {w W6 W7 W8:World}{D:cy}{VK':ah}{R':dq}{dm':List (Int×Int)}{ws':Nat->Int}{q':List Wt}{VR':ax}(h:e_ w D)(hF6:Fr w W6 (fun _=>False))(hf7:Fr W6 W7 (D.VK.fd D.kx))(hk7:KD W7 D.kx ⟨VK'.ker,dm'⟩ VK')(hge7:∀k,VK'.fd D.kx k->2<=k)(hfp7:∀k,VK'.fd D.kx k->D.VK.fd D.kx k\/W6.heap.size<=k)
 (hf8:Fr W7 W8 (D.VR.fq D.ky)) (hr8:RD W8 D.ky ⟨R',dm',ws',q'⟩ VR') (hfp8:∀k,VR'.fq D.ky k->D.VR.fq D.ky k\/W7.heap.size<=k) (hag:Ag ⟨R',dm',ws',q'⟩ ⟨VK'.ker,dm'⟩) (hwb:∀i,0<=ws' i/\ws' i<=4294967295) :
 e_ W8 {D with VK:=VK',R:=R',dm:=dm',ws:=ws',q:=q',VR:=VR'}/\Fr w W8 D.fp/\∀k,cy.fp {D with VK:=VK',R:=R',dm:=dm',ws:=ws',q:=q',VR:=VR'} k->D.fp k\/W6.heap.size<=k:=by
 have l6:=hF6.size;have l7:=hf7.size;have hsb:=(Array.getElem?_eq_some_iff.1 h.side).1;have key:∀k,VK'.fd D.kx k->¬D.VR.fq D.ky k:=by
  intro k hk hr;rcases hfp7 k hk with e | e
  ·exact h.a3 k e hr
  ·have:=h.rd.fqLt hr;omega
 refine ⟨⟨?_,hk7.frame hf8 key,hr8,hag,hge7,hwb,?_,?_,?_⟩,?_,?_⟩
 ·exact hf8.same (hf7.same (hF6.same h.side id) h.a1) h.a2
 ·intro e;rcases hfp7 _ e with e | e
  ·exact h.a1 e
  ·have:W6.heap.size<=D.sb:=e;omega
 ·intro e;rcases hfp8 _ e with e | e
  ·exact h.a2 e
  ·have:W7.heap.size<=D.sb:=e;omega
 ·intro k hk hr;rcases hfp8 k hr with e | e
  ·exact key k hk e
  ·have:=hk7.fdLt hk;omega
 ·exact ((hF6.mono (fun _=>False.elim)).step hf7 (fun k hk=>.inl (.inr (.inl hk)))).step hf8 (fun k hk=>.inl (.inr (.inr hk)))
 ·rintro k (e | e | e)
  ·exact .inl (.inl e)
  ·rcases hfp7 k e with e | e
   ·exact .inl (.inr (.inl e))
   ·exact .inr e
  ·rcases hfp8 k e with e | e
   ·exact .inl (.inr (.inr e))
   ·exact .inr (by omega)
theorem bi6 {w W6 W8 W:World}{wb:Nat}{U U':co}{D D':cy}{gA gT gB:Nat}{vA vT vB vW:Value}(h:fi w wb U D)(hw68:W6.heap.size<=W8.heap.size)(hg:w.heap.size<=gA/\w.heap.size<=gT/\w.heap.size<=gB/\gA<W6.heap.size/\gT<W6.heap.size/\gB<W6.heap.size)
 (hF8:Fr w W8 D.fp) (hsd8:e_ W8 D') (hfpD:∀k,D'.fp k->D.fp k\/W6.heap.size<=k) (hDsb:D'.sb=D.sb) (hF:Fr W8 W (fun k=>U.fp wb k\/k=gA\/k=gT\/k=gB)) (hL:io W wb U')
 (hrl:U'.rl=fun j=>if j=3 then U.rl 3++[vA]++[vT] else if j=4 then U.rl 4++[vB] else if j=5 then U.rl 5++[vW] else U.rl j) (hfU:∀k,U'.fp wb k->U.fp wb k\/W8.heap.size<=k) (hcb:∀k,U'.cb k->U.cb k\/k=gA\/k=gT\/k=gB\/W8.heap.size<=k)
 (fA:jb W [.int .i64 (-7)] vA) (fT:jb W [.int .i64 (-7)] vT) (fB:∃l:List Bool,l.length<=150000000000000/\se W vB l/\se W vW l):gj w wb U D U' D' W:=by
 have hG8:np W8 U:=h.good.frame hF8 (fun k hk e=>(h.sep k e).2 hk)
 have hsD:∀k,D'.fp k->¬(U.fp wb k\/k=gA\/k=gT\/k=gB):=by
  rintro k hk e;rcases hfpD k hk with e1 | e1
  ·have:=h.sd.lt e1;rcases e with e | e | e | e
   ·exact (h.sep k e1).1 e
   ·omega
   ·omega
   ·omega
  ·rcases e with e | e | e | e
   ·have:=h.law.lt e;omega
   ·omega
   ·omega
   ·omega
 have hGW:np W U:=hG8.frame hF (fun k hk e=>by
  have:=h.law.clt k hk;rcases e with e | e | e | e
  ·exact h.law.cont k hk e
  ·omega
  ·omega
  ·omega)
 have r0:U'.rl 0=U.rl 0:=by rw [hrl];rfl
 have r1:U'.rl 1=U.rl 1:=by rw [hrl];rfl
 have r2:U'.rl 2=U.rl 2:=by rw [hrl];rfl
 have r3:U'.rl 3=U.rl 3++[vA]++[vT]:=by rw [hrl];rfl
 have r4:U'.rl 4=U.rl 4++[vB]:=by rw [hrl];rfl
 have r5:U'.rl 5=U.rl 5++[vW]:=by rw [hrl];rfl
 refine ⟨⟨hL,⟨?_,?_,?_,?_,?_⟩,hsd8.frame hF hsD,fun k hk=>⟨fun e=>?_,fun e=>?_⟩,by rw [r1];exact h.m1,by rw [r2];exact h.m2⟩,?_,fun k hk=>(hfU k hk).imp id (fun e=>by omega),fun k hk=>?_,fun k hk=>(hfpD k hk).imp id (fun e=>by omega),hDsb,r0,?_⟩
 ·intro i v hv;rw [r1] at hv;exact hGW.e i v hv
 ·intro i v hv;rw [r2] at hv;exact hGW.d i v hv
 ·intro i v hv;rw [r3] at hv;by_cases h1:i<(U.rl 3).length
  ·rw [List.getElem?_append_left (by simp;omega),List.getElem?_append_left h1] at hv;exact hGW.i i v hv
  ·have hm:=l5 hv;by_cases h2:i=(U.rl 3).length
   ·subst h2;simp at hv;subst hv;exact fA
   ·have h3:=(List.getElem?_eq_some_iff.1 hv).1;simp at h3;have:i=(U.rl 3).length+1:=by omega
    subst this;rw [List.getElem?_append_right (by simp)] at hv;simp at hv;subst hv;exact fT
 ·rw [r4,r5];simp [hGW.bx]
 ·intro i v x hv hx;rw [r4] at hv;rw [r5] at hx;by_cases h1:i<(U.rl 4).length
  ·rw [List.getElem?_append_left h1] at hv;rw [List.getElem?_append_left (by rw [<- hGW.bx];exact h1)] at hx;exact hGW.b i v x hv hx
  ·have h3:=(List.getElem?_eq_some_iff.1 hv).1;simp at h3;have:i=(U.rl 4).length:=by omega
   subst this;simp at hv;rw [hGW.bx] at hx;simp at hx;subst hv;subst hx;exact fB
 ·have hl8:=hsd8.lt hk;rcases hfU k e with e | e
  ·exact hsD k hk (.inl e)
  ·omega
 ·have hl8:=hsd8.lt hk;rcases hcb k e with e | e | e | e | e
  ·rcases hfpD k hk with e1 | e1
   ·exact (h.sep k e1).2 e
   ·have:=h.law.clt k e;omega
  ·exact hsD k hk (.inr (.inl e))
  ·exact hsD k hk (.inr (.inr (.inl e)))
  ·exact hsD k hk (.inr (.inr (.inr e)))
  ·omega
 ·exact (hF8.mono (fun k hk=>.inr hk)).step hF (fun k hk=>by
   rcases hk with e | e | e | e
   ·exact .inl (.inl e)
   ·exact .inr (by omega)
   ·exact .inr (by omega)
   ·exact .inr (by omega))
 ·rcases hcb k hk with e | e | e | e | e
  ·exact .inl e
  ·exact .inr (by omega)
  ·exact .inr (by omega)
  ·exact .inr (by omega)
  ·exact .inr (by omega)
 ·intro j hj;have:j=0\/j=1\/j=2\/j=3\/j=4\/j=5:=by omega
  rcases this with rfl | rfl | rfl | rfl | rfl | rfl
  ·rw [r0];omega
  ·rw [r1];omega
  ·rw [r2];omega
  ·rw [r3];simp
  ·rw [r4];simp
  ·rw [r5];simp
theorem fg.frOf {w w':World}{kb:Nat}{V:ah}{S:KS}(h:fg w kb V S w'):Fr w w' (V.fd kb):=by obtain ⟨_,_,h,_⟩:=h;exact h
def j4 (l:List Bool):List Value:=l.map Value.bool
theorem zq (l:List Bool):(j4 l).length=l.length:=List.length_map _
theorem bx9 (l:List Bool):∀u∈j4 l,u.oneCell'=true:=by
 intro u hu;obtain ⟨x,_,rfl⟩:=List.mem_map.1 hu;rfl
def ri (i:Nat)(l:List Bool):List Bool:=(l.take i).map (fun b=>!b)++l.drop i
theorem bn2 (i:Nat)(l:List Bool):(ri i l).length=l.length:=by simp [ri];omega
theorem a91 (l:List Bool):ri 0 l=l:=by simp [ri]
theorem bk8 (l:List Bool)(i:Nat)(h:l.length<=i):ri i l=l.map (fun b=>!b):=by simp [ri,List.take_of_length_le h,List.drop_eq_nil_of_le h]
theorem bw0 (i:Nat)(l:List Bool)(h:i<l.length):(ri i l)[i]?=some l[i]:=by
 unfold ri;rw [List.getElem?_append_right (by simp;omega)];simp [List.getElem?_drop,Nat.min_eq_left (Nat.le_of_lt h),h]
theorem aj2 (i:Nat)(l:List Bool)(h:i<l.length):(ri i l).set i (!l[i])=ri (i+1) l:=by
 unfold ri;have e1:l.take (i+1)=l.take i++[l[i]]:=List.take_succ_eq_append_getElem h;have e2:l.drop i=l[i] :: l.drop (i+1):=List.drop_eq_getElem_cons h;have e3:i-((l.take i).map (fun b=>!b)).length=0:=by simp;omega
 rw [List.set_append_right _ _ (by simp;omega),e3,e1,e2,List.map_append,List.append_assoc];rfl
theorem bq_ (l:List Bool)(i:Nat)(b:Bool):(j4 l).toArray.setIfInBounds i (.bool b)=(j4 (l.set i b)).toArray:=by
 apply Array.toList_inj.1;rw [Array.toList_setIfInBounds];simp [j4,List.map_set]
theorem uv (l:List Bool)(i:Nat)(b:Bool)(h:l[i]?=some b):(j4 l).toArray[i]?=some (.bool b):=by
 rw [List.getElem?_toArray];simp [j4,h]
theorem b03 (i:Nat)(l:List Bool)(h:i<l.length):j4 ((l.take i).map (fun b=>!b))++[.bool (!l[i])]=j4 ((l.take (i+1)).map (fun b=>!b)):=by
 rw [List.take_succ_eq_append_getElem h];simp only [j4,List.map_append,List.map_cons,List.map_nil]
theorem ay4 {w:World}{g c:Nat}{l:List Bool}{b:Bool}{t:TypeId}(hc:l.length<=c)(h:w.heap[g]?=some (.cells (j4 (l++[b])).toArray t (0,0))):eo w (.slice (some ⟨g,0,none⟩) l.length c) l:=
 ⟨_,_,rfl,hc,fun _=>⟨g,0,rfl,fun i hi=>by rw [Nat.zero_add];exact aa h (uv _ _ _ (by rw [List.getElem?_append_left hi,List.getElem?_eq_getElem hi]))⟩⟩
theorem bt7 (wb:Nat)(U:co)(D:cy)(w:World)(h:fi w wb U D)(hgl:ev w)(ask th n:Int)(which:Bool)(c:Cl)(av tv bv:Value)(bs:List Bool)(hav:ay w av c.at_)(htv:ay w tv c.to)(hbv:eo w bv bs)(hbl:bs.length<=140737488351232)(hal:c.at_.length<=17592186044416)(htl:c.to.length<=17592186044416)
 (hda:0<c.at_.length->∀k,av.ownBlock=some k->k<w.heap.size/\¬U.fp wb k/\¬D.fp k) (hdt:0<c.to.length->∀k,tv.ownBlock=some k->k<w.heap.size/\¬U.fp wb k/\¬D.fp k) (hdb:0<bs.length->∀k,bv.ownBlock=some k->k<w.heap.size/\¬U.fp wb k/\¬D.fp k) (hth0:-9223372036854775808<=th) (hth1:th<=9223372036854775807) (hn:∀j,j<6->(U.rl j).length<=4000000000000) :
 Calls Tryz.prog 25 #[.pointer (some ⟨wb,0,none⟩),.pointer (some ⟨D.sb,0,none⟩),wt ask th c av tv bv n which] w fun e w'=>e=.returned (.bool true)/\∃U' D',gj w wb U D U' D' w':=by
 have hmk:=fun w'=>run_make_row' 54 4 (.bool false) 1 Tryz.underlying54 a26 rfl .i64 .i64 (bs.length+1) (by omega) (by omega) w'
 have ec:((bs.length+1:Nat):Int)=(bs.length:Int)+1:=by omega
 simp only [ec] at hmk;clear ec;obtain ⟨iB,hiB,hB0,hB1,hB2⟩:=info_parts a26;obtain ⟨iL,hiL,hL0,hL1,hL2⟩:=info_parts bm9;obtain ⟨A,r8,rfl,hA⟩:=hav;obtain ⟨B,capB,rfl,hB⟩:=htv;obtain ⟨Q,capQ,rfl,hQc,hQ⟩:=id hbv;unfold wt;go_enter Tryz.func25,Tryz.ntmps25
 go_upto_region 1 with fail
 generalize hW1:w.alloc _=W1;have hf1:Fr w W1 (fun _=>False):=by rw [<- hW1];exact (Fr.refl _ _).alloc _
 have hb5:W1.heap[w.heap.size]?=some (.cells #[.int .i64 ask,.int .i64 th,.int .i64 c.kind,.slice A c.at_.length r8,.slice B c.to.length capB,.int .i64 c.ty,.int .i64 c.bits,.int .i64 c.count,.int .i64 c.rights,.int .i64 c.badge,.int .i64 c.value,.int .i64 c.offset,.slice Q bs.length capQ,.int .i64 n,.bool which] 56 (0,0)):=by rw [<- hW1];exact heap_alloc_new _ _
 have hs1:w.heap.size<W1.heap.size:=(Array.getElem?_eq_some_iff.1 hb5).1;clear hW1;have p3:=aa (o:=3) hb5 rfl;have hlA:=az8 (.slice A c.at_.length r8) c.at_ W1 (by omega) ⟨A,r8,rfl,fun h0=>by obtain ⟨g,o,e,hc⟩:=hA h0;exact ⟨g,o,e,fun i hi=>hf1.cell (hc i hi) id⟩⟩
 go_upto_region 2 with (go_at_call 47;refine hlA.mono ?_;rintro e W2 ⟨rfl,hbA,hf2⟩)
 clear hlA p3;have hb5':=hf2.same hb5 id;have hF2:Fr w W2 (fun _=>False):=hf1.step hf2 (fun _=>False.elim);have hs2:=(Array.getElem?_eq_some_iff.1 hbA).1;have p4:=aa (o:=4) hb5' rfl;have hlB:=az8 (.slice B c.to.length capB) c.to W2 (by omega) ⟨B,capB,rfl,fun h0=>by obtain ⟨g,o,e,hc⟩:=hB h0;exact ⟨g,o,e,fun i hi=>hF2.cell (hc i hi) id⟩⟩
 go_upto_region 3 with (go_at_call 47;refine hlB.mono ?_;rintro e W3 ⟨rfl,hbT,hf3⟩)
 clear hlB p4;have hb5:=hf3.same hb5' id;have hbA3:=hf3.same hbA id;have hF3:Fr w W3 (fun _=>False):=hF2.step hf3 (fun _=>False.elim);have hs3:=(Array.getElem?_eq_some_iff.1 hbT).1;clear hb5' hbA;have hgo0:w.heap.size<W1.heap.size/\W1.heap.size<W2.heap.size/\W2.heap.size<W3.heap.size:=⟨hs1,by have:=hf2.size;omega,hs3⟩;clear hf2 hf3 hF2 hf1 hs1 hs2 hs3;generalize hgA:W1.heap.size=gA at *
 generalize hgT:W2.heap.size=gT at *
 generalize hBo:w.heap.size=Bo at *
 obtain ⟨hgo1,hgo2,hgo3⟩:=hgo0;clear hgA hgT;have p12:=aa (o:=12) hb5 rfl;have hlt3:Bo<W3.heap.size:=by omega
 go_upto_region 4 with fail
 clear p12;generalize hW4:W3.alloc _=W4;have hf4:Fr W3 W4 (fun _=>False):=by rw [<- hW4];exact (Fr.refl _ _).alloc _
 have hbB0:W4.heap[W3.heap.size]?=some (.cells (madeCells #[.bool false] (bs.length+1)) 4 (0,0)):=by rw [<- hW4];exact heap_alloc_new _ _
 have hs4:=(Array.getElem?_eq_some_iff.1 hbB0).1;have hF4:Fr w W4 (fun _=>False):=hF3.step hf4 (fun _=>False.elim);have hb5:=hf4.same hb5 id;have hbA:=hf4.same hbA3 id;have hbT:=hf4.same hbT id;clear hW4 hf4 hF3 hbA3;generalize hgB:W3.heap.size=gB at *
 clear hgB;have p12:=aa (o:=12) hb5 rfl;have hmdL:(madeCells #[Value.bool false] (bs.length+1)).toList=j4 (List.replicate (bs.length+1) false):=by rw [toList_madeCells_one];simp [j4]
 go_cut [37] (fun _ wx=>wx.heap[gB]?=some (.cells (j4 (bs++[false])).toArray 4 (0,0))/\Fr W4 wx (fun k=>k=gB))
 case first=>
  have hfin:(j4 bs++List.drop bs.length (j4 (List.replicate (bs.length+1) false)))=j4 (bs++[false]):=by
   rw [j4,j4,<- List.map_drop,List.drop_replicate,Nat.add_sub_cancel_left];simp [j4]
  by_cases h0:bs.length=0
  ·have hb0:bs=[]:=List.eq_nil_of_length_eq_zero h0;subst hb0;clear hmk hfin;go_wp2_with (refine wpList_copy_nothing rfl _ _ 54 54 rfl 4 Tryz.underlying54 a55 _ _ _ _ _ _ rfl rfl (Nat.zero_min _) ?_)
   go_meet;case rel=>
    refine ⟨?_,Fr.refl _ _⟩;rw [hbB0];have:madeCells #[Value.bool false] 1=(j4 ([]++[false])).toArray:=Array.toList_inj.1 hmdL;rw [<- this];rfl
  ·obtain ⟨gq,oq,hQe,hQq⟩:=hQ (by omega);subst hQe;have hsrc:∀j v,(j4 bs)[j]?=some v->W4.cell? ((⟨gq,oq,none⟩:Addr).add j)=some v:=by
    intro j v hv;rw [mp];have hj:j<bs.length:=by have:=(List.getElem?_eq_some_iff.1 hv).1;rw [zq] at this;exact this
    simp only [j4,List.getElem?_map,List.getElem?_eq_getElem hj,Option.map_some,Option.some.injEq] at hv;rw [<- hv];exact hF4.cell (hQq j hj) id
   have hmin:(j4 bs).length=Nat.min bs.length (bs.length+1):=by rw [zq];exact (Nat.min_eq_left (by omega)).symm
   have hfit:0+(j4 bs).length<=(madeCells #[Value.bool false] (bs.length+1)).size:=by rw [zq,size_madeCells];omega
   have hb2:=setRow_heap W4 gB _ (List.take 0 (madeCells #[Value.bool false] (bs.length+1)).toList++(j4 bs++List.drop (0+(j4 bs).length) (madeCells #[Value.bool false] (bs.length+1)).toList)).toArray _ _ hbB0;have hf2:Fr W4 (W4.setRow gB (List.take 0 (madeCells #[Value.bool false] (bs.length+1)).toList++(j4 bs++List.drop (0+(j4 bs).length) (madeCells #[Value.bool false] (bs.length+1)).toList)).toArray) (fun k=>k=gB):=
    ⟨rfl,rfl,rfl,by simp [World.setRow],fun k hk hn=>setRow_other _ _ _ _ (by omega)⟩
   have hres:(List.take 0 (madeCells #[Value.bool false] (bs.length+1)).toList++(j4 bs++List.drop (0+(j4 bs).length) (madeCells #[Value.bool false] (bs.length+1)).toList))=j4 (bs++[false]):=by
    rw [List.take_zero,List.nil_append,Nat.zero_add,zq,hmdL];exact hfin
   have hb3:(W4.setRow gB (List.take 0 (madeCells #[Value.bool false] (bs.length+1)).toList++(j4 bs++List.drop (0+(j4 bs).length) (madeCells #[Value.bool false] (bs.length+1)).toList)).toArray).heap[gB]?=some (.cells (j4 (bs++[false])).toArray 4 (0,0)):=by
    rw [hres] at hb2 ⊢;exact hb2
   clear hmk hfin hres hmdL;go_wp2_with (refine wpList_copy_own rfl _ _ 54 54 rfl 4 Tryz.underlying54 a55 gB 0 _ _ ⟨gq,oq,none⟩ _ _ rfl rfl _ _ hbB0 (j4 bs) hmin hsrc hfit (bx9 bs) ?_)
   go_meet;case rel=>exact ⟨hb3,hf2⟩
 case rest=>
 obtain ⟨hbB,hfc⟩:=hcut;have hfc':Fr w wc (fun _=>False):=hF4.step hfc (fun k hk=>.inr (by omega))
 have hb5:=hfc.same hb5 (by omega);have hbA:=hfc.same hbA (by omega);have hbT:=hfc.same hbT (by omega);have hsc:=hfc.size;have hs4:gB<wc.heap.size:=by omega
 clear hbB0 hmdL p12 hF4 hfc;have hF4:=hfc';clear hfc';generalize wc=W4 at *
 have p0:=aa (o:=0) hb5 rfl;have p1:=aa (o:=1) hb5 rfl;have p2:=aa (o:=2) hb5 rfl;have p3:=aa (o:=3) hb5 rfl;have p4:=aa (o:=4) hb5 rfl;have p5:=aa (o:=5) hb5 rfl;have p6:=aa (o:=6) hb5 rfl;have p7:=aa (o:=7) hb5 rfl;have p8:=aa (o:=8) hb5 rfl;have p9:=aa (o:=9) hb5 rfl;have p10:=aa (o:=10) hb5 rfl;have p11:=aa (o:=11) hb5 rfl;have p12:=aa (o:=12) hb5 rfl;have hlt4:Bo<W4.heap.size:=by omega
 have hltA:gA<W4.heap.size:=by omega
 have hltT:gT<W4.heap.size:=by omega
 go_upto_region 8 with fail
 clear p0 p1 p2 p3 p4 p5 p6 p7 p8 p9 p10 p11 p12;generalize hW5:W4.alloc _=W5;have hf5:Fr W4 W5 (fun _=>False):=by rw [<- hW5];exact (Fr.refl _ _).alloc _
 have hbC:W5.heap[W4.heap.size]?=some (.cells #[.int .i64 c.kind,.slice (some ⟨gA,0,none⟩) c.at_.length (c.at_.length+1),.slice (some ⟨gT,0,none⟩) c.to.length (c.to.length+1),.int .i64 c.ty,.int .i64 c.bits,.int .i64 c.count,.int .i64 c.rights,.int .i64 c.badge,.int .i64 c.value,.int .i64 c.offset] 41 (0,0)):=by rw [<- hW5];exact heap_alloc_new _ _
 have hs5:=(Array.getElem?_eq_some_iff.1 hbC).1;have hF5:Fr w W5 (fun _=>False):=hF4.step hf5 (fun _=>False.elim);have hb5:=hf5.same hb5 id;have hbA:=hf5.same hbA id;have hbT:=hf5.same hbT id;have hbB:=hf5.same hbB id;clear hW5 hf5 hF4;generalize hgC:W4.heap.size=gC at *
 clear hgC;have p1:=aa (o:=1) hb5 rfl;have hsd5:=h.sd.frame hF5 (fun _ _=>id);have hlt5:Bo<W5.heap.size:=by omega
 have hbase:=a32 D.R D.VR D.ky D.sb th W5 hsd5.ref (aa (o:=1) hsd5.side rfl) (by have:=h.sd.inv.lenT;omega) hth0 hth1;go_upto_region 9 with (go_at_call 27;refine hbase.mono ?_;rintro e W6 ⟨rfl,q6,rfl⟩)
 clear hbase p1 hsd5;have hF6:Fr w (W5.drewN q6) (fun _=>False):=hF5.drewN q6;have hb5:(W5.drewN q6).heap[Bo]?=_:=hb5;have hbA:(W5.drewN q6).heap[gA]?=_:=hbA;have hbT:(W5.drewN q6).heap[gT]?=_:=hbT;have hbB:(W5.drewN q6).heap[gB]?=_:=hbB;have hbC:(W5.drewN q6).heap[gC]?=_:=hbC;have hs6:gC<(W5.drewN q6).heap.size:=hs5;clear hF5 hs5 hlt5;generalize W5.drewN q6=W6 at *
 generalize hbi:ag_ D.R.T th=bi at *
 have hsd6:=h.sd.frame hF6 (fun _ _=>id);have hgl6:=ev.fr hgl hF6;have hav6:ay W6 (.slice (some ⟨gA,0,none⟩) c.at_.length (c.at_.length+1)) c.at_:=⟨_,_,rfl,fun _=>⟨gA,0,rfl,fun i hi=>by rw [Nat.zero_add];exact aa hbA (ao0 c.at_ 78 i hi)⟩⟩
 have htv6:ay W6 (.slice (some ⟨gT,0,none⟩) c.to.length (c.to.length+1)) c.to:=⟨_,_,rfl,fun _=>⟨gT,0,rfl,fun i hi=>by rw [Nat.zero_add];exact aa hbT (ao0 c.to 78 i hi)⟩⟩
 have hbv6:eo W6 (.slice (some ⟨gB,0,none⟩) bs.length (bs.length+1)) bs:=ay4 (by omega) hbB;have hdo:∀W,Fr W6 W (fun _=>False)->Calls Tryz.prog 11 #[.pointer (some ⟨D.kx,0,none⟩),.int .i64 bi,.agg #[.int .i64 c.kind,.slice (some ⟨gA,0,none⟩) c.at_.length (c.at_.length+1),.slice (some ⟨gT,0,none⟩) c.to.length (c.to.length+1),.int .i64 c.ty,.int .i64 c.bits,.int .i64 c.count,.int .i64 c.rights,.int .i64 c.badge,.int .i64 c.value,.int .i64 c.offset],.slice (some ⟨gB,0,none⟩) bs.length (bs.length+1)] W (fun e w'=>e=.returned (.tuple #[.int .i64 (qg ⟨D.VK.ker,D.dm⟩ bi c bs).1,.int .i64 (qg ⟨D.VK.ker,D.dm⟩ bi c bs).2.1])/\fg W D.kx D.VK (qg ⟨D.VK.ker,D.dm⟩ bi c bs).2.2 w'):=by
  intro W hW;have hkd:s_ W D.kx ⟨D.VK.ker,D.dm⟩ D.VK:=⟨hsd6.kd.frame hW (fun _ _=>id),ev.fr hgl6 hW,h.sd.ge⟩;exact b40 ⟨D.VK.ker,D.dm⟩ D.VK D.kx c _ _ _ bs bi W ⟨⟨hkd,h.sd.good,hav6.fr hW (fun _ _=>id),htv6.fr hW (fun _ _=>id),by omega,by omega,fun _ _ _ e=>by cases e;omega,fun _ _ _ e=>by cases e;omega,fun _ k hk e=>by cases hk;have:gA<w.heap.size:=h.sd.kd.fdLt e;omega,fun _ k hk e=>by cases hk;have:gT<w.heap.size:=h.sd.kd.fdLt e;omega⟩,hbv6.frame hW (fun _ _ _=>id),fun _ k hk e=>by cases hk;have:gB<w.heap.size:=h.sd.kd.fdLt e;omega⟩ (fun i hi=>by rw [<- h.sd.ag.ws i hi];exact h.sd.wb i)
 have hagree0:=bo4 h.sd.ag bi c bs;have hagree:=And.intro hagree0.1 (And.intro hagree0.2.1 hagree0.2.2.1);have Hwb:Aside (∀i,0<=(ww ⟨D.R,D.dm,D.ws,D.q⟩ bi c bs).2.2.ws i/\(ww ⟨D.R,D.dm,D.ws,D.q⟩ bi c bs).2.2.ws i<=4294967295):=b04 _ bi c bs h.sd.wb;clear hagree0 hmk;generalize (qg ⟨D.VK.ker,D.dm⟩ bi c bs).1=vx at *
 generalize (qg ⟨D.VK.ker,D.dm⟩ bi c bs).2.1=ex at *
 generalize (qg ⟨D.VK.ker,D.dm⟩ bi c bs).2.2=K' at *
 have s0:=aa (o:=0) hsd6.side rfl;obtain ⟨q0,q1,q2,q3,q4,q5,q6,q7,q8,q9⟩:=w_ hbC;have p12:=aa (o:=12) hb5 rfl;have iq0:(0:Int)<=(bs.length:Int):=by omega
 have iq1:(bs.length:Int)<=(bs.length:Int)+1:=by omega
 have iq2:(bs.length:Int)<=((bs.length+1:Nat):Int):=by omega
 have nC:¬D.VK.fd D.kx gC:=fun e=>by have:=h.sd.kd.fdLt e;omega
 have nO:¬D.VK.fd D.kx Bo:=fun e=>by have:=h.sd.kd.fdLt e;omega
 go_region_held3 (fun w'=>w'.cell? ⟨D.sb,0,none⟩=some (.pointer (some ⟨D.kx,0,none⟩))/\w'.cell? ⟨gC,0,none⟩=some (.int .i64 c.kind)/\w'.cell? ⟨gC,1,none⟩=some (.slice (some ⟨gA,0,none⟩) c.at_.length (c.at_.length+1))/\w'.cell? ⟨gC,2,none⟩=some (.slice (some ⟨gT,0,none⟩) c.to.length (c.to.length+1))/\w'.cell? ⟨gC,3,none⟩=some (.int .i64 c.ty)/\w'.cell? ⟨gC,4,none⟩=some (.int .i64 c.bits)/\w'.cell? ⟨gC,5,none⟩=some (.int .i64 c.count)/\w'.cell? ⟨gC,6,none⟩=some (.int .i64 c.rights)/\w'.cell? ⟨gC,7,none⟩=some (.int .i64 c.badge)/\w'.cell? ⟨gC,8,none⟩=some (.int .i64 c.value)/\w'.cell? ⟨gC,9,none⟩=some (.int .i64 c.offset)/\w'.cell? ⟨Bo,12,none⟩=some (.slice Q bs.length capQ)) (first | go_keep | (simp [go_sem,r0,m0,m1,m2,m3,m4,m5,m6,m7,m8,m9,m12];done))
  (first
  |(go_at_call 11;refine (hdo _ (Fr.refl _ _).drew).mono ?_;rintro e W7 ⟨rfl,hK7⟩
    have mC:=(fg.frOf hK7).same (show W6.drew.heap[gC]?=_ from hbC) nC;have mO:=(fg.frOf hK7).same (show W6.drew.heap[Bo]?=_ from hb5) nO;have mS:=(fg.frOf hK7).same (show W6.drew.heap[D.sb]?=_ from hsd6.side) h.sd.a1;have r0:=aa (o:=0) mS rfl;have m0:=aa (o:=0) mC rfl;have m1:=aa (o:=1) mC rfl;have m2:=aa (o:=2) mC rfl;have m3:=aa (o:=3) mC rfl;have m4:=aa (o:=4) mC rfl;have m5:=aa (o:=5) mC rfl;have m6:=aa (o:=6) mC rfl;have m7:=aa (o:=7) mC rfl;have m8:=aa (o:=8) mC rfl;have m9:=aa (o:=9) mC rfl;have m12:=aa (o:=12) mO rfl))
 clear r0 m0 m1 m2 m3 m4 m5 m6 m7 m8 m9 m12 q0 q1 q2 q3 q4 q5 q6 q7 q8 q9 p12 s0 hdo hav6 htv6 hbv6 hgl6;obtain ⟨VK',hk7,hfr7,hfp7⟩:=hK7;have hf7:Fr W6 W7 (D.VK.fd D.kx):=hfr7.drewl;have hfp7:∀k,VK'.fd D.kx k->D.VK.fd D.kx k\/W6.heap.size<=k:=hfp7;have nA:¬D.VK.fd D.kx gA:=fun e=>by have:=h.sd.kd.fdLt e;omega
 have nT:¬D.VK.fd D.kx gT:=fun e=>by have:=h.sd.kd.fdLt e;omega
 have nB:¬D.VK.fd D.kx gB:=fun e=>by have:=h.sd.kd.fdLt e;omega
 have hbA:=hf7.same hbA nA;have hbT:=hf7.same hbT nT;have hbB:=hf7.same hbB nB;have hF7:Fr w W7 (D.VK.fd D.kx):=(hF6.mono (fun _=>False.elim)).step hf7 (fun _ hk=>.inl hk);have href7:=h.sd.rd.frame hF7 (fun k hk e=>h.sd.a3 k e hk);have hav7:ay W7 (.slice A c.at_.length r8) c.at_:=(show ay w (.slice A c.at_.length r8) c.at_ from ⟨A,r8,rfl,hA⟩).fr' hF7 (fun h0 k hk e=>(hda h0 k hk).2.2 (.inr (.inl e)))
 have htv7:ay W7 (.slice B c.to.length capB) c.to:=(show ay w (.slice B c.to.length capB) c.to from ⟨B,capB,rfl,hB⟩).fr' hF7 (fun h0 k hk e=>(hdt h0 k hk).2.2 (.inr (.inl e)))
 have hbv7:eo W7 (.slice Q bs.length capQ) bs:=hbv.frame hF7 (fun k hk h0 e=>(hdb h0 k hk).2.2 (.inr (.inl e)))
 have hs7:=hf7.size;clear hfr7 hb5 hbC hsd6;have hdoR:∀W,Fr W7 W (fun _=>False)->Calls Tryz.prog 48 #[.pointer (some ⟨D.ky,0,none⟩),.int .i64 bi,.agg #[.int .i64 c.kind,.slice A c.at_.length r8,.slice B c.to.length capB,.int .i64 c.ty,.int .i64 c.bits,.int .i64 c.count,.int .i64 c.rights,.int .i64 c.badge,.int .i64 c.value,.int .i64 c.offset],.slice Q bs.length capQ] W (ax7 W D.ky D.VR (ww ⟨D.R,D.dm,D.ws,D.q⟩ bi c bs)):=by
  intro W hW;exact b72 ⟨D.R,D.dm,D.ws,D.q⟩ D.VR D.ky bi c _ _ _ bs W (href7.frame hW (fun _ _=>id)) ⟨_,h.sd.ag⟩ (by omega) (by omega) (hav7.fr hW (fun _ _=>id)) (htv7.fr hW (fun _ _=>id)) (hbv7.frame hW (fun _ _ _=>id)) (fun h0 k hk e=>(hda h0 k hk).2.2 (.inr (.inr e))) (fun h0 k hk e=>(hdt h0 k hk).2.2 (.inr (.inr e))) (fun k hk h0=>⟨fun e=>(hdb h0 k hk).2.2 (.inr (.inr e)),by have:=(hdb h0 k hk).1;have:=hW.size;omega⟩)
 unfold ax7 at hdoR;obtain ⟨hag0,hag1,hag2⟩:=hagree;generalize (ww ⟨D.R,D.dm,D.ws,D.q⟩ bi c bs).1=vy at *
 generalize (ww ⟨D.R,D.dm,D.ws,D.q⟩ bi c bs).2.1=ey at *
 generalize (ww ⟨D.R,D.dm,D.ws,D.q⟩ bi c bs).2.2=R2 at *
 obtain ⟨R',DR,ws',q'⟩:=R2;obtain ⟨K2,DK⟩:=K';have hDK:DK=DR:=hag2.d;subst hDK;have hk7e:VK'.ker=K2:=hk7.kd.eq;subst hk7e;subst hag1;subst hag0;have s1:=aa (o:=1) mS rfl;have p2:=aa (o:=2) mO rfl;have p3:=aa (o:=3) mO rfl;have p4:=aa (o:=4) mO rfl;have p5:=aa (o:=5) mO rfl;have p6:=aa (o:=6) mO rfl;have p7:=aa (o:=7) mO rfl;have p8:=aa (o:=8) mO rfl;have p9:=aa (o:=9) mO rfl;have p10:=aa (o:=10) mO rfl;have p11:=aa (o:=11) mO rfl;have p12:=aa (o:=12) mO rfl;have nS:¬D.VR.fq D.ky D.sb:=h.sd.a2;have nO:¬D.VR.fq D.ky Bo:=fun e=>by have:=h.sd.rd.fqLt e;omega
 have nA:¬D.VR.fq D.ky gA:=fun e=>by have:=h.sd.rd.fqLt e;omega
 have nT:¬D.VR.fq D.ky gT:=fun e=>by have:=h.sd.rd.fqLt e;omega
 have nB:¬D.VR.fq D.ky gB:=fun e=>by have:=h.sd.rd.fqLt e;omega
 clear mC nC;go_wp2_with fail
 go_region_held3 (fun w'=>w'.cell? ⟨D.sb,1,none⟩=some (.pointer (some ⟨D.ky,0,none⟩))/\w'.cell? ⟨Bo,2,none⟩=some (.int .i64 c.kind)/\w'.cell? ⟨Bo,3,none⟩=some (.slice A c.at_.length r8)/\w'.cell? ⟨Bo,4,none⟩=some (.slice B c.to.length capB)/\w'.cell? ⟨Bo,5,none⟩=some (.int .i64 c.ty)/\w'.cell? ⟨Bo,6,none⟩=some (.int .i64 c.bits)/\w'.cell? ⟨Bo,7,none⟩=some (.int .i64 c.count)/\w'.cell? ⟨Bo,8,none⟩=some (.int .i64 c.rights)/\w'.cell? ⟨Bo,9,none⟩=some (.int .i64 c.badge)/\w'.cell? ⟨Bo,10,none⟩=some (.int .i64 c.value)/\w'.cell? ⟨Bo,11,none⟩=some (.int .i64 c.offset)/\w'.cell? ⟨Bo,12,none⟩=some (.slice Q bs.length capQ)) (first | go_keep | (simp [go_sem,r1,m2,m3,m4,m5,m6,m7,m8,m9,m10,m11,m12];done))
  (first
  |(go_at_call 48;refine (hdoR _ (Fr.refl _ _).drew).mono ?_;rintro e W8 ⟨rfl,VR',hr8,hfr8,hfp8⟩
    have mO8:=hfr8.same (show W7.drew.heap[Bo]?=_ from mO) nO;have mS8:=hfr8.same (show W7.drew.heap[D.sb]?=_ from mS) nS;have r1:=aa (o:=1) mS8 rfl;have m2:=aa (o:=2) mO8 rfl;have m3:=aa (o:=3) mO8 rfl;have m4:=aa (o:=4) mO8 rfl;have m5:=aa (o:=5) mO8 rfl;have m6:=aa (o:=6) mO8 rfl;have m7:=aa (o:=7) mO8 rfl;have m8:=aa (o:=8) mO8 rfl;have m9:=aa (o:=9) mO8 rfl;have m10:=aa (o:=10) mO8 rfl;have m11:=aa (o:=11) mO8 rfl;have m12:=aa (o:=12) mO8 rfl))
 have hf8:Fr W7 W8 (D.VR.fq D.ky):=hfr8.drewl;obtain ⟨hsd8,hF8,hfpD⟩:=h.sd.after hF6 hf7 hk7.kd hk7.ge hfp7 hf8 hr8 hfp8 hag2 Hwb.out;have hbA:=hf8.same hbA nA;have hbT:=hf8.same hbT nT;have hbB:=hf8.same hbB nB;have hav8:ay W8 (.slice A c.at_.length r8) c.at_:=hav7.fr' hf8 (fun h0 k hk e=>(hda h0 k hk).2.2 (.inr (.inr e)))
 have htv8:ay W8 (.slice B c.to.length capB) c.to:=htv7.fr' hf8 (fun h0 k hk e=>(hdt h0 k hk).2.2 (.inr (.inr e)))
 have hbv8:eo W8 (.slice Q bs.length capQ) bs:=hbv7.frame hf8 (fun k hk h0 e=>(hdb h0 k hk).2.2 (.inr (.inr e)))
 have hb5:=mO8;have hsz8:gC<W8.heap.size:=by have:=hf8.size;omega
 have hs68:W6.heap.size<=W8.heap.size:=by have:=hf8.size;omega
 generalize hD':(⟨D.sb,D.kx,D.ky,VK',R',DK,ws',q',VR'⟩:cy)=D' at *
 have hDsb:D'.sb=D.sb:=by rw [<- hD']
 clear r1 m2 m3 m4 m5 m6 m7 m8 m9 m10 m11 m12 p2 p3 p4 p5 p6 p7 p8 p9 p10 p11 p12 s1 hdoR hfr8 hf8 hk7 hf7 hF6 hF7 href7 hav7 htv7 hbv7 mO8 mS8 mS mO hr8 hfp8 hfp7 hag2 nA nT nB nO nS hD';have hL8:io W8 wb U:=h.law.frame hF8 (fun k hk e=>(h.sep k e).1 hk)
 have hG8:np W8 U:=h.good.frame hF8 (fun k hk e=>(h.sep k e).2 hk)
 have fA:¬U.fp wb gA:=fun e=>by have:=h.law.lt e;omega
 have fT:¬U.fp wb gT:=fun e=>by have:=h.law.lt e;omega
 have hret:=ac3 wb gA U c.at_ (.slice A c.at_.length r8) W8 hL8 hbA fA hav8 (by omega) (by have:=hn 3 (by omega);omega);have p3:=aa (o:=3) hb5 rfl;go_upto_region 12 with (go_at_call 49;refine hret.mono ?_;rintro e W9 ⟨rfl,nv9,hO9,hfl9⟩)
 clear hret p3;have hf9:=hO9.fr;have hs9:=hf9.size;have gTA:¬(U.fp wb gT\/gT=gA):=fun e=>e.elim fT (by omega)
 have gBA:¬(U.fp wb gB\/gB=gA):=fun e=>e.elim (fun e=>by have:=h.law.lt e;omega) (by omega)
 have gOA:¬(U.fp wb Bo\/Bo=gA):=fun e=>e.elim (fun e=>by have:=h.law.lt e;omega) (by omega)
 have hbT:=hf9.same hbT gTA;have hbB:=hf9.same hbB gBA;have hb5:=hf9.same hb5 gOA;have htv9:=htv8.fr' hf9 (fun h0 k hk e=>e.elim (fun e=>(hdt h0 k hk).2.1 e) (fun e=>by have:=(hdt h0 k hk).1;omega))
 have fT1:¬(U.add 3 nv9 (.slice (some ⟨gA,0,none⟩) (c.at_.length+1) (c.at_.length+1))).fp wb gT:=fun e=>by
  rcases hO9.fp _ e with e | e
  ·exact fT e
  ·omega
 have hL9:=hO9.at_;have hl3:((U.add 3 nv9 (.slice (some ⟨gA,0,none⟩) (c.at_.length+1) (c.at_.length+1))).rl 3).length<=4000000000001:=by
  have:=hn 3 (by omega);simp [co.add];omega
 have hret:=ac3 wb gT _ c.to (.slice B c.to.length capB) W9 hL9 hbT fT1 htv9 (by omega) (by omega);have p4:=aa (o:=4) hb5 rfl;go_upto_region 13 with (go_at_call 49;refine hret.mono ?_;rintro e W10 ⟨rfl,nv10,hO10,hfl10⟩)
 clear hret p4;have hf10:=hO10.fr;have hs10:=hf10.size;have fU1:∀k,k<W8.heap.size->¬U.fp wb k->¬(U.add 3 nv9 (.slice (some ⟨gA,0,none⟩) (c.at_.length+1) (c.at_.length+1))).fp wb k:=fun k hk hu e=>by
  rcases hO9.fp _ e with e | e
  ·exact hu e
  ·omega
 have fB:¬U.fp wb gB:=fun e=>gBA (.inl e)
 have hbB10:=hf10.same hbB (fun e=>e.elim (fU1 gB (by omega) fB) (by omega))
 have hb510:=hf10.same hb5 (fun e=>e.elim (fU1 Bo (by omega) (fun e=>gOA (.inl e))) (by omega))
 have hq9:∀k,(Value.slice Q bs.length capQ).ownBlock=some k->0<bs.length->k≠gA/\k≠gT/\k≠gB/\¬U.fp wb k/\k<W8.heap.size:=fun k hk h0=>by
  have:=hdb h0 k hk;exact ⟨by omega,by omega,by omega,this.2.1,by omega⟩
 have hbv10:eo W10 (.slice Q bs.length capQ) bs:=(hbv8.frame hf9 (fun k hk h0 e=>e.elim (hq9 k hk h0).2.2.2.1 (fun e=>(hq9 k hk h0).1 e))).frame hf10 (fun k hk h0 e=>e.elim (fU1 k (hq9 k hk h0).2.2.2.2 (hq9 k hk h0).2.2.2.1) (fun e=>(hq9 k hk h0).2.1 e))
 have p12:=aa (o:=12) hb510 rfl;have b0:W10.cell? ⟨gB,bs.length,none⟩=some (.bool false):=aa hbB10 (uv _ _ _ (by simp));obtain ⟨U2,hU2⟩:∃U2,U2=(U.add 3 nv9 (.slice (some ⟨gA,0,none⟩) (c.at_.length+1) (c.at_.length+1))).add 3 nv10 (.slice (some ⟨gT,0,none⟩) (c.to.length+1) (c.to.length+1)):=⟨_,rfl⟩;rw [<- hU2] at hO10;have hfU2:∀k,U2.fp wb k->U.fp wb k\/W8.heap.size<=k:=fun k hk=>by
  rcases hO10.fp k hk with e | e
  ·exact hO9.fp k e
  ·exact .inr (by omega)
 have hcU2:∀k,U2.cb k->U.cb k\/k=gA\/k=gT\/W8.heap.size<=k:=fun k hk=>by
  rcases hO10.cb k hk with e | e | e
  ·rcases hO9.cb k e with e | e | e
   ·exact .inl e
   ·exact .inr (.inl e)
   ·exact .inr (.inr (.inr e))
  ·exact .inr (.inr (.inl e))
  ·exact .inr (.inr (.inr (by omega)))
 have hL10:=hO10.at_;have hF10:Fr W8 W10 (fun k=>U.fp wb k\/k=gA\/k=gT):=(hf9.mono (fun k e=>e.imp id .inl)).step hf10 (fun k e=>e.elim (fun e=>(hO9.fp k e).imp .inl id) (fun e=>.inl (.inr (.inr e))))
 have hfl9':jb W10 [.int .i64 (-7)] (.slice (some ⟨gA,0,none⟩) (c.at_.length+1) (c.at_.length+1)):=hfl9.frame hf10 (fun k hk e=>by cases hk;exact e.elim (fU1 gA (by omega) fA) (fun e=>by have:gA=gT:=e;omega))
 have hs810:W8.heap.size<=W10.heap.size:=hF10.size;have hgB10:gB<W10.heap.size:=by omega
 have hBo10:Bo<W10.heap.size:=by omega
 have hn4:(U2.rl 4).length<=4000000000000:=by rw [hU2];exact hn 4 (by omega)
 have hn5:(U2.rl 5).length<=4000000000000:=by rw [hU2];exact hn 5 (by omega)
 have HU:Hid (U2=(U.add 3 nv9 (.slice (some ⟨gA,0,none⟩) (c.at_.length+1) (c.at_.length+1))).add 3 nv10 (.slice (some ⟨gT,0,none⟩) (c.to.length+1) (c.to.length+1))):=hU2;clear hfl9 hO9 hO10 hf9 hf10 hs9 hs10 hbT hbB hb5 htv9 fT1 hL9 hl3 hU2 hL8 hbA hav8 htv8 hbv8 hbv hQ hA hB;go_upto_region 15 with fail
 clear b0 p12;obtain ⟨BL,HBL⟩:∃BL,Hid (bs++[false]=BL):=⟨_,rfl⟩;have hBLn:BL.length=bs.length+1:=by rw [<- HBL.out];simp
 rw [HBL.out] at hbB10;have hBg:∀i (hi:i<bs.length),BL[i]?=some bs[i]:=fun i hi=>by rw [<- HBL.out,List.getElem?_append_left hi,List.getElem?_eq_getElem hi]
 go_wp2;go_loopw [18,19,20] (fun okv wv iv w'=>okv=.bool true/\∃i:Nat,i<=bs.length+1/\iv=.int .i64 i/\w'.heap[gB]?=some (.cells (j4 (ri i BL)).toArray 4 (0,0))/\w'.ownsRow W10.heap.size 4 1 wv i (j4 ((BL.take i).map (fun b=>!b)))/\Fr W10 w' (fun k=>k=gB)) (fun _ _ iv _=>bs.length+1-(intOf iv).toNat)
 case atStart=>exact ⟨rfl,0,Nat.zero_le _,rfl,by rw [a91];exact hbB10,World.ownsRow_nil _ _ _ _,Fr.refl _ _⟩
 case round=>
  obtain ⟨rfl,i,hi,rfl,hbr,hor,hfr⟩:=hrel;obtain ⟨Aw,capw,hwv⟩:=cz hor;subst hwv;have hszr:=hfr.size;have hb5r:=hfr.same hb510 (by omega);have hgBr:gB<wr.heap.size:=by omega
  by_cases hlt:i<bs.length+1
  ·have hltB:i<BL.length:=by omega
   obtain ⟨x,hx0⟩:∃x,BL[i]=x:=⟨_,rfl⟩;have Hx:Hid (BL[i]=x):=hx0;clear hx0;have hxx:(ri i BL)[i]?=some x:=by rw [bw0 i BL hltB,Hx.out]
   have b0:wr.cell? ⟨gB,i,none⟩=some (.bool x):=aa hbr (uv _ _ _ hxx);have p12:=aa (o:=12) hb5r rfl;go_upto_region 18 with fail
   go_cut [18] (fun okv wx=>okv=.bool true/\∃m,wx=wr.drewN m)
   case first=>
    by_cases hin:i<bs.length
    ·have hbvr:=hbv10.frame hfr (fun k hk h0 e=>(hq9 k hk h0).2.2.1 e)
     obtain ⟨Q',cq',e',_,hQr⟩:=hbvr;cases e'
     obtain ⟨gq,oq,rfl,hcq⟩:=hQr (by omega);have c0:=hcq i hin;have hbx:bs[i]=x:=by
      have h1:=hBg i hin;rw [List.getElem?_eq_getElem hltB,Hx.out] at h1;exact (Option.some.inj h1).symm
     rw [hbx] at c0;have hne:¬(i:Int)=(bs.length:Int):=by omega
     clear hcq hQr hbx hBg hor hbr;go_quiet (fail)
     go_wp2_with fail
     go_meet;exact ⟨by first | rfl | simp,_,rfl⟩
    ·have hie:i=bs.length:=by omega
     subst hie;clear hor hbr hBg;go_quiet (fail)
     go_wp2_with fail
     go_meet;exact ⟨by first | rfl | simp,_,rfl⟩
   case rest=>
    obtain ⟨rfl,mq,hwc⟩:=hcut;have hbr':wc.heap[gB]?=some (.cells (j4 (ri i BL)).toArray 4 (0,0)):=by rw [hwc];exact hbr
    have hor':wc.ownsRow W10.heap.size 4 1 (.slice Aw i capw) i (j4 ((BL.take i).map (fun b=>!b))):=by rw [hwc];exact hor
    have hfr':Fr W10 wc (fun k=>k=gB):=by rw [hwc];exact hfr.drewN _
    have b0':wc.cell? ⟨gB,i,none⟩=some (.bool x):=aa hbr' (uv _ _ _ hxx);have zb:wc.frozen? ⟨gB,i,none⟩=false:=ab hbr';clear hwc b0 p12 hbr hor hfr hb5r hxx;go_upto_region 20 with fail
    have hb2:(wc.setCell ⟨gB,i,none⟩ (.bool !x)).heap[gB]?=some (.cells (j4 (ri (i+1) BL)).toArray 4 (0,0)):=by
     have:=ak wc gB i (.bool !x) hbr';rw [bq_] at this;rw [this,<- aj2 i BL hltB,Hx.out]
    have hf2:Fr W10 (wc.setCell ⟨gB,i,none⟩ (.bool !x)) (fun k=>k=gB):=hfr'.setCell (.inl rfl) _ _;have ho2:(wc.setCell ⟨gB,i,none⟩ (.bool !x)).ownsRow W10.heap.size 4 1 (.slice Aw i capw) i (j4 ((BL.take i).map (fun b=>!b))):=(Fr.set1 wc gB i (.bool !x)).owns hor' (fun k hk e=>by have:=(hor'.lt k hk).1;have e:k=gB:=e;omega)
    generalize wc.setCell _ _=W12 at hb2 hf2 ho2 ⊢;clear b0' zb hbr' hor' hfr';have b1:W12.cell? ⟨gB,i,none⟩=some (.bool !x):=aa hb2 (uv _ _ _ (by rw [<- aj2 i BL hltB,Hx.out,List.getElem?_set_self (by rw [bn2];exact hltB)]));have hsz2:=hf2.size;have hgB2:gB<W12.heap.size:=by omega
    go_wp2_with (at_builtin;go_must (refine wpList_append_lies _ rfl _ _ 54 rfl W10.heap.size 4 iB _ 1 1 Tryz.underlying54 hiB hB0 hB1 hB2 rfl (by decide) (.slice Aw i capw) i _ rfl (World.ownsRow.alloc ho2 _) ⟨_,0,none⟩ 1 1 [.bool !x] rfl rfl (dg _ _ _) (by simp [Value.oneCell']) (by decide) (by unfold maxLen;omega) (by omega) (by simp;omega) _ rfl ?_);intro g20 cap20 Y20 hown20 hg20 hat20 hlt20)
    have hf20:Fr W12 Y20 (fun k=>(Value.slice Aw i capw).ownBlock=some k):=((Fr.refl W12 (fun k=>(Value.slice Aw i capw).ownBlock=some k)).alloc _).grown hg20 (fun r hr=>.inl hr)
    have hb20:=hf20.same hb2 (fun e=>by have:=(ho2.lt gB e).1;omega)
    have hF20:Fr W10 Y20 (fun k=>k=gB):=hf2.step hf20 (fun k hk=>.inr (ho2.lt k hk).1)
    have en:j4 ((BL.take i).map (fun b=>!b))++[.bool !x]=j4 ((BL.take (i+1)).map (fun b=>!b)):=by rw [<- Hx.out];exact b03 i BL hltB
    rw [en] at hown20;clear hg20 hat20 hlt20 ho2 b1 hf20 hf2 hb2;go_wp2;go_roundw;case rel=>exact ⟨rfl,i+1,by omega,by go_num,hb20,hown20,hF20⟩
    case measure=>simp [intOf];omega
  ·have hie:i=bs.length+1:=by omega
   subst hie;rw [bk8 BL _ (by omega)] at hbr;rw [List.take_of_length_le (by omega)] at hor;obtain ⟨g20,cap20,hwv,hg20e,_⟩:=hor.form (by omega);cases hwv
   obtain ⟨NL,HNL⟩:∃NL,Hid (BL.map (fun b=>!b)=NL):=⟨_,rfl⟩;have hNL:NL.length=bs.length+1:=by rw [<- HNL.out];simp [hBLn]
   rw [HNL.out] at hbr hor;have hL20:io wr wb U2:=hL10.frame hfr (fun k hk e=>(hfU2 k hk).elim (fun e2=>fB (e▸e2)) (fun e2=>by have e:k=gB:=e;omega))
   have hg20l:g20<wr.heap.size:=(hor.lt g20 rfl).2;have f20:¬U2.fp wb g20:=fun e=>by have:=hL10.lt e;omega
   have fB2:¬U2.fp wb gB:=fun e=>(hfU2 gB e).elim fB (by omega)
   have fA20:=hfl9'.frame hfr (fun k hk e=>by cases hk;have:gA=gB:=e;omega);have fT20:=hfl10.frame hfr (fun k hk e=>by cases hk;have:gT=gB:=e;omega);have hF20w:Fr W8 wr (fun k=>U.fp wb k\/k=gA\/k=gT\/k=gB):=(hF10.mono (fun k e=>e.imp id (fun e=>e.imp id .inl))).step hfr (fun k e=>.inl (.inr (.inr (.inr e))))
   have cc:wr.cell? ⟨wb,4,none⟩=some (U2.rv 4):=aa hL20.blk rfl;have oo:wr.ownsRow 0 54 1 (U2.rv 4) (U2.rl 4).length (U2.rl 4):=hL20.row 4 (by omega);have sw:wb<wr.heap.size:=World.block_lt_of_cell? _ _ cc;clear hfl9' hfl10 hbB10 hb510 hbv10 hb5r gTA gBA gOA hL10 hfr hBg;go_upto_region 22 with (at_builtin;go_must (refine wpList_append_lies _ rfl _ _ 28 rfl 0 54 iL _ 1 24 Tryz.underlying28 hiL hL0 hL1 hL2 rfl (by decide) _ _ _ rfl (World.ownsRow.alloc oo _) ⟨_,0,none⟩ 1 1 [.slice (some ⟨gB,0,none⟩) (bs.length+1) (bs.length+1)] rfl rfl (dg _ _ _) (by simp [Value.oneCell']) (by decide) (by unfold maxLen;omega) (by omega) (Nat.zero_le _) (wr.heap.size+1) (by simp) ?_))
   intro g21 cap21 Y21 hown21 hg21 hat21 hlt21;obtain ⟨d21,z21,hL21,hf21,hfp21,hcb21⟩:=hL20.add (j:=4) (by omega) hg21 hown21 hat21 (fun _ k hk=>by cases hk;exact ⟨fB2,by show gB<_;omega⟩);clear hown21 hg21 hat21 hlt21 cc oo;go_upto_region 22 with fail
   generalize hgen:Y21.setCell ⟨wb,4,none⟩ (.slice (some ⟨g21,0,none⟩) ((U2.rl 4).length+1) cap21)=W21 at *
   clear hgen d21 z21;generalize hnv21:Value.slice (some ⟨g21,0,none⟩) ((U2.rl 4).length+1) cap21=nv21 at *
   have hn5':((U2.add 4 nv21 (.slice (some ⟨gB,0,none⟩) (bs.length+1) (bs.length+1))).rl 5).length<=4000000000000:=hn5;have f20':¬(U2.add 4 nv21 (.slice (some ⟨gB,0,none⟩) (bs.length+1) (bs.length+1))).fp wb g20:=fun e=>(hfp21 g20 e).elim f20 (by omega)
   have hs21:=hf21.size;have cc:W21.cell? ⟨wb,5,none⟩=some ((U2.add 4 nv21 (.slice (some ⟨gB,0,none⟩) (bs.length+1) (bs.length+1))).rv 5):=aa hL21.blk rfl;have oo:W21.ownsRow 0 54 1 ((U2.add 4 nv21 (.slice (some ⟨gB,0,none⟩) (bs.length+1) (bs.length+1))).rv 5) ((U2.add 4 nv21 (.slice (some ⟨gB,0,none⟩) (bs.length+1) (bs.length+1))).rl 5).length ((U2.add 4 nv21 (.slice (some ⟨gB,0,none⟩) (bs.length+1) (bs.length+1))).rl 5):=hL21.row 5 (by omega);have sw1:wb<W21.heap.size:=World.block_lt_of_cell? _ _ cc;go_wp2_with (at_builtin;go_must (refine wpList_append_lies _ rfl _ _ 28 rfl 0 54 iL _ 1 24 Tryz.underlying28 hiL hL0 hL1 hL2 rfl (by decide) _ _ _ rfl (World.ownsRow.alloc oo _) ⟨_,0,none⟩ 1 1 [.slice (some ⟨g20,0,none⟩) (bs.length+1) capw] rfl rfl (dg _ _ _) (by simp [Value.oneCell']) (by decide) (by unfold maxLen;omega) (by omega) (Nat.zero_le _) (W21.heap.size+1) (by simp) ?_))
   intro g22 cap22 Y22 hown22 hg22 hat22 hlt22;obtain ⟨d22,z22,hL22,hf22,hfp22,hcb22⟩:=hL21.add (j:=5) (by omega) hg22 hown22 hat22 (fun _ k hk=>by cases hk;exact ⟨f20',by show g20<_;omega⟩);clear hown22 hg22 hat22 hlt22 cc oo;go_wp2;go_ret;generalize hgen:Y22.setCell ⟨wb,5,none⟩ (.slice (some ⟨g22,0,none⟩) (((U2.add 4 nv21 (.slice (some ⟨gB,0,none⟩) (bs.length+1) (bs.length+1))).rl 5).length+1) cap22)=W22 at *
   have hF22:Fr W8 W22 (fun k=>U.fp wb k\/k=gA\/k=gT\/k=gB):=(hF20w.step hf21 (fun k e=>(hfU2 k e).imp .inl id)).step hf22 (fun k e=>by
    rcases hfp21 k e with e | e
    ·exact (hfU2 k e).imp .inl id
    ·exact .inr (by have:=hF20w.size;omega))
   have hF2022:Fr wr W22 (fun k=>U2.fp wb k):=hf21.step hf22 (fun k e=>hfp21 k e);have hb22:=hF2022.same hbr fB2;have ho22:=hF2022.owns hor (fun k hk e=>by cases hk;exact f20 e);refine ⟨rfl,_,D',bi6 (W6:=W6) (gA:=gA) (gT:=gT) (gB:=gB) (vA:=.slice (some ⟨gA,0,none⟩) (c.at_.length+1) (c.at_.length+1)) (vT:=.slice (some ⟨gT,0,none⟩) (c.to.length+1) (c.to.length+1)) (vB:=.slice (some ⟨gB,0,none⟩) (bs.length+1) (bs.length+1)) (vW:=.slice (some ⟨g20,0,none⟩) (bs.length+1) capw) h hs68 ⟨by omega,by omega,by omega,by omega,by omega,by omega⟩ hF8 hsd8 hfpD hDsb hF22 hL22 ?_ ?_ ?_ ?_ ?_ ?_⟩
   ·rw [HU.out];funext j;simp only [co.add];by_cases e3:j=3
    ·subst e3;rfl
    ·by_cases e4:j=4
     ·subst e4;rfl
     ·by_cases e5:j=5
      ·subst e5;rfl
      ·simp [e3,e4,e5]
   ·intro k hk;rcases hfp22 k hk with e | e
    ·rcases hfp21 k e with e | e
     ·exact hfU2 k e
     ·exact .inr (by have:=hF20w.size;omega)
    ·exact .inr (by have:=hF20w.size;omega)
   ·intro k hk;rcases hcb22 k hk with e | ⟨_,e⟩
    ·rcases hcb21 k e with e | ⟨_,e⟩
     ·rcases hcU2 k e with e | e | e | e
      ·exact .inl e
      ·exact .inr (.inl e)
      ·exact .inr (.inr (.inl e))
      ·exact .inr (.inr (.inr (.inr e)))
     ·cases e;exact .inr (.inr (.inr (.inl rfl)))
    ·cases e;exact .inr (.inr (.inr (.inr (by show W8.heap.size<=g20;omega))))
   ·exact fA20.frame hF2022 (fun k hk e=>by cases hk;exact (hfU2 gA e).elim fA (by omega))
   ·exact fT20.frame hF2022 (fun k hk e=>by cases hk;exact (hfU2 gT e).elim fT (by omega))
   ·refine ⟨NL,by omega,⟨_,_,by rw [hNL],fun _=>⟨gB,rfl,fun i hi=>?_⟩⟩,⟨_,_,by rw [hNL],fun _=>⟨g20,rfl,fun i hi=>?_⟩⟩⟩
    ·exact aa hb22 (uv _ _ _ (List.getElem?_eq_getElem hi))
    ·have:=ho22.cells (g:=g20) rfl i (.bool NL[i]) (by simp [j4,hi]);rw [mp,Nat.zero_add] at this;exact this
theorem gj.of_fr {w w1 w':World}{wb:Nat}{U U':co}{D D':cy}(hf:Fr w w1 (fun _=>False))(h:gj w1 wb U D U' D' w'):gj w wb U D U' D' w':=by
 have:=hf.size;exact ⟨h.at_,(hf.mono (fun _=>False.elim)).step h.fr (fun k hk=>.inl hk),fun k hk=>(h.fpU k hk).imp id (fun e=>by omega),fun k hk=>(h.cbU k hk).imp id (fun e=>by omega),fun k hk=>(h.fpD k hk).imp id (fun e=>by omega),h.sb,h.r0,h.len⟩
theorem e_.thr {w:World}{D:cy}(h:e_ w D)(b:Int):D.VK.ker.thr b=(D.R.T.find? (af b)).map ej.thd:=h.inv.rel.thr b
theorem e_.wss {w:World}{D:cy}(h:e_ w D):∀i,i<1024->D.VK.ws i=D.VR.ws i/\0<=D.VK.ws i/\D.VK.ws i<=4294967295:=by
 intro i hi;have h1:D.ws i=D.VK.ws i:=h.ag.ws i hi;have h2:D.VR.ws=D.ws:=h.rd.ws;rw [h2,<- h1];exact ⟨rfl,h.wb i⟩
theorem e_.thread {w:World}{D:cy}(h:e_ w D)(b:Int):Calls Tryz.prog 26 #[.pointer (some ⟨D.sb,0,none⟩),.int .i64 b] w fun e w'=>e=.returned (.bool true)/\Fr w w' (fun _=>False):=
 a47 D.R D.VR D.VK D.kx D.ky D.sb b w h.side h.ker h.ref (by have:=h.inv.lenT;omega) (h.thr b)
theorem e_.word {w:World}{D:cy}(h:e_ w D)(n:Int):Calls Tryz.prog 30 #[.pointer (some ⟨D.sb,0,none⟩),.int .i64 n] w fun e w'=>e=.returned (.bool true)/\Fr w w' (fun _=>False):=
 bl3 D.R D.VR D.VK D.kx D.ky D.sb n w h.side h.ker h.ref h.wss
theorem e_.base {w:World}{D:cy}(h:e_ w D)(n:Int)(h0:-9223372036854775808<=n)(h1:n<=9223372036854775807):Calls Tryz.prog 27 #[.pointer (some ⟨D.sb,0,none⟩),.int .i64 n] w fun e w'=>e=.returned (.int .i64 (ag_ D.R.T n))/\∃q,w'=w.drewN q:=
 a32 D.R D.VR D.ky D.sb n w h.ref (aa (o:=1) h.side rfl) (by have:=h.inv.lenT;omega) h0 h1
theorem a24 (wb:Nat)(U:co)(D:cy)(w:World)(h:fi w wb U D)(hgl:ev w)(ask th n:Int)(which:Bool)(c:Cl)(av tv bv:Value)(bs:List Bool)(hav:ay w av c.at_)(htv:ay w tv c.to)(hbv:eo w bv bs)(hbl:bs.length<=140737488351232)(hal:c.at_.length<=17592186044416)(htl:c.to.length<=17592186044416)
 (hda:0<c.at_.length->∀k,av.ownBlock=some k->k<w.heap.size/\¬U.fp wb k/\¬D.fp k) (hdt:0<c.to.length->∀k,tv.ownBlock=some k->k<w.heap.size/\¬U.fp wb k/\¬D.fp k) (hdb:0<bs.length->∀k,bv.ownBlock=some k->k<w.heap.size/\¬U.fp wb k/\¬D.fp k) (hth0:-9223372036854775808<=th) (hth1:th<=9223372036854775807)
 (hn0:-9223372036854775808<=n) (hn1:n<=9223372036854775807) (hn:∀j,j<6->(U.rl j).length<=4000000000000) :
 Calls Tryz.prog 15 #[.pointer (some ⟨wb,0,none⟩),.pointer (some ⟨D.sb,0,none⟩),wt ask th c av tv bv n which] w fun e w'=>e=.returned (.bool true)/\∃U' D',gj w wb U D U' D' w':=by
 obtain ⟨W1,hW1⟩:∃W1,w.alloc (.cells #[.int .i64 ask,.int .i64 th,.int .i64 c.kind,av,tv,.int .i64 c.ty,.int .i64 c.bits,.int .i64 c.count,.int .i64 c.rights,.int .i64 c.badge,.int .i64 c.value,.int .i64 c.offset,bv,.int .i64 n,.bool which] 56)=W1:=⟨_,rfl⟩;have hf1:Fr w W1 (fun _=>False):=by rw [<- hW1];exact (Fr.refl _ _).alloc _
 have HW:Hid (_=W1):=hW1;clear hW1;have h1:=h.frame hf1;have hgl1:=ev.fr hgl hf1;have hs1:=hf1.size;obtain ⟨A,r8,rfl,hA⟩:=hav;obtain ⟨B,capB,rfl,hB⟩:=htv;have hav:ay w (.slice A c.at_.length r8) c.at_:=⟨A,r8,rfl,hA⟩;have htv:ay w (.slice B c.to.length capB) c.to:=⟨B,capB,rfl,hB⟩;have hav1:=hav.fr hf1 (fun _ _=>id);have htv1:=htv.fr hf1 (fun _ _=>id);have hbv1:=hbv.frame hf1 (fun _ _ _=>id);obtain ⟨Q,capQ,rfl,_,_⟩:=id hbv;clear hA hB;by_cases e0:ask=0
 ·have hcall:=bt7 wb U D W1 h1 hgl1 ask th n which c _ _ _ bs hav1 htv1 hbv1 hbl hal htl (fun h0 k hk=>⟨by have:=(hda h0 k hk).1;omega,(hda h0 k hk).2⟩) (fun h0 k hk=>⟨by have:=(hdt h0 k hk).1;omega,(hdt h0 k hk).2⟩) (fun h0 k hk=>⟨by have:=(hdb h0 k hk).1;omega,(hdb h0 k hk).2⟩) hth0 hth1 hn
  subst e0;unfold wt at hcall ⊢;go_enter Tryz.func15,Tryz.ntmps15
  go_wp2_with (go_at_call 25;rw [HW.out];refine hcall.mono ?_;rintro e W2 ⟨rfl,U',D',hG⟩)
  go_ret;exact ⟨rfl,U',D',hG.of_fr hf1⟩
 ·have d0:(ask==0)=false:=by simpa using e0
  by_cases e1:ask=1
  ·subst e1;have hcb:=h1.sd.base n hn0 hn1;unfold wt;go_enter Tryz.func15,Tryz.ntmps15
   go_wp2_with (first
    |(go_at_call 27;rw [HW.out];refine hcb.mono ?_;rintro e W2 ⟨rfl,q,rfl⟩)
    |(go_at_call 26;refine ((h1.sd.frame ((Fr.refl _ (fun _=>False)).drewN q) (fun _ _=>id)).thread _).mono ?_;rintro e W3 ⟨rfl,hf3⟩))
   go_ret;exact ⟨rfl,U,D,gj.same h ((hf1.drewN q).step hf3 (fun _=>False.elim))⟩
  ·have d1:(ask==1)=false:=by simpa using e1
   by_cases e2:ask=2
   ·subst e2;have hcc:=ar8 wb U D W1 h1 hgl1 hn;unfold wt;go_enter Tryz.func15,Tryz.ntmps15
    go_wp2_with (go_at_call 28;rw [HW.out];refine hcc.mono ?_;rintro e W2 ⟨rfl,U',hG⟩)
    go_ret;exact ⟨rfl,U',D,hG.of_fr hf1⟩
   ·have d2:(ask==2)=false:=by simpa using e2
    by_cases e3:ask=3
    ·subst e3;have hcc:=ah1 wb U D W1 h1 hn;unfold wt;go_enter Tryz.func15,Tryz.ntmps15
     go_wp2_with (go_at_call 29;rw [HW.out];refine hcc.mono ?_;rintro e W2 ⟨rfl,U',hG⟩)
     go_ret;exact ⟨rfl,U',D,hG.of_fr hf1⟩
    ·have d3:(ask==3)=false:=by simpa using e3
     by_cases e4:ask=4
     ·subst e4;have hcc:=h1.sd.word n;unfold wt;go_enter Tryz.func15,Tryz.ntmps15
      go_wp2_with (go_at_call 30;rw [HW.out];refine hcc.mono ?_;rintro e W2 ⟨rfl,hf2⟩)
      go_ret;exact ⟨rfl,U,D,gj.same h (hf1.step hf2 (fun _=>False.elim))⟩
     ·have d4:(ask==4)=false:=by simpa using e4
      unfold wt;go_enter Tryz.func15,Tryz.ntmps15
      go_wp2;go_ret;exact ⟨rfl,U,D,gj.same h (by rw [HW.out];exact hf1)⟩
theorem gj.trans {w w1 w2:World}{wb:Nat}{U U1 U2:co}{D D1 D2:cy}(h:gj w wb U D U1 D1 w1)(h2:gj w1 wb U1 D1 U2 D2 w2):
 fi w2 wb U2 D2/\Fr w w2 (fun k=>U.fp wb k\/D.fp k)/\(∀k,U2.fp wb k->U.fp wb k\/w.heap.size<=k)/\(∀k,U2.cb k->U.cb k\/w.heap.size<=k)/\(∀k,D2.fp k->D.fp k\/w.heap.size<=k)/\D2.sb=D.sb/\U2.rl 0=U.rl 0/\(∀j,j<6->(U2.rl j).length<=(U.rl j).length+8):=by
 have hs:=h.fr.size;refine ⟨h2.at_,h.fr.step h2.fr (fun k hk=>?_),fun k hk=>?_,fun k hk=>?_,fun k hk=>?_,h2.sb.trans h.sb,h2.r0.trans h.r0,fun j hj=>?_⟩
 ·rcases hk with e | e
  ·exact (h.fpU k e).imp .inl id
  ·exact (h.fpD k e).imp .inr id
 ·rcases h2.fpU k hk with e | e
  ·exact h.fpU k e
  ·exact .inr (by omega)
 ·rcases h2.cbU k hk with e | e
  ·exact h.cbU k e
  ·exact .inr (by omega)
 ·rcases h2.fpD k hk with e | e
  ·exact h.fpD k e
  ·exact .inr (by omega)
 ·have:=h.len j hj;have:=h2.len j hj;omega
theorem fi.other2 {w w':World}{wb:Nat}{U U':co}{D D' E:cy}(h:fi w wb U E)(hd:∀k,E.fp k->¬D.fp k)(hat:fi w' wb U' D')(hfr:Fr w w' (fun k=>U.fp wb k\/D.fp k))(hfU:∀k,U'.fp wb k->U.fp wb k\/w.heap.size<=k)(hcU:∀k,U'.cb k->U.cb k\/w.heap.size<=k):fi w' wb U' E:=by
 refine ⟨hat.law,hat.good,h.sd.frame hfr (fun k hk e=>e.elim (h.sep k hk).1 (hd k hk)),fun k hk=>⟨fun e=>?_,fun e=>?_⟩,hat.m1,hat.m2⟩
 ·rcases hfU k e with e | e
  ·exact (h.sep k hk).1 e
  ·have:=h.sd.lt hk;omega
 ·rcases hcU k e with e | e
  ·exact (h.sep k hk).2 e
  ·have:=h.sd.lt hk;omega
theorem af4 (wb:Nat)(U:co)(D:cy)(w:World)(h:fi w wb U D)(hgl:ev w)(hn:∀j,j<6->(U.rl j).length<=3999999999000):
 Calls Tryz.prog 17 #[.pointer (some ⟨wb,0,none⟩),.pointer (some ⟨D.sb,0,none⟩)] w fun e w'=>e=.returned (.bool true)/\∃U' D',fi w' wb U' D'/\Fr w w' (fun k=>U.fp wb k\/D.fp k)/\(∀k,U'.fp wb k->U.fp wb k\/w.heap.size<=k)/\(∀k,U'.cb k->U.cb k\/w.heap.size<=k)/\(∀k,D'.fp k->D.fp k\/w.heap.size<=k)/\D'.sb=D.sb/\U'.rl 0=U.rl 0/\(∀j,j<6->(U'.rl j).length<=(U.rl j).length+8):=by
 have hca:=ar8 wb U D w h hgl (fun j hj=>by have:=hn j hj;omega);go_enter Tryz.func17,Tryz.ntmps17
 go_upto_region 2 with (go_at_call 28;refine hca.mono ?_;rintro e W1 ⟨rfl,U1,hG1⟩)
 clear hca;have hdo:=ah1 wb U1 D W1 hG1.at_ (fun j hj=>by have:=hn j hj;have:=hG1.len j hj;omega);go_upto_region 3 with (go_at_call 29;refine hdo.mono ?_;rintro e W2 ⟨rfl,U2,hG2⟩)
 clear hdo;have hT:=hG1.trans hG2;have hsd:=hG2.at_.sd;clear hG1 hG2;go_wp2;go_loopw [7] (fun i w'=>Fr W2 w' (fun _=>False)/\∃m:Nat,m<=1026/\i=.int .i64 ((m:Int)-1)) (fun i _=>(1026-(intOf i+1)).toNat)
 case atStart=>exact ⟨Fr.refl _ _,0,by omega,rfl⟩
 case round=>
  obtain ⟨hf,m,hm,rfl⟩:=hrel;by_cases hlt:m<1026
  ·have dle:decide ((m:Int)-1<=1024)=true:=by simp;omega
   go_wp2_with (first
    |(go_at_call 30;refine ((hsd.frame hf (fun _ _=>id)).word _).mono ?_;rintro e W3 ⟨rfl,hf3⟩)
    |(go_at_call 26;refine ((hsd.frame (hf.step hf3 (fun _=>False.elim)) (fun _ _=>id)).thread _).mono ?_;rintro e W4 ⟨rfl,hf4⟩))
   go_roundw;case rel=>exact ⟨(hf.step hf3 (fun _=>False.elim)).step hf4 (fun _=>False.elim),m+1,by omega,by go_num⟩
   case measure=>simp [intOf];omega
  ·have dle:decide ((m:Int)-1<=1024)=false:=by simp;omega
   go_wp2;go_ret;obtain ⟨t1,t2,t3,t4,t5,_,t7,t8⟩:=hT;exact ⟨rfl,U2,D,t1.frame hf,t2.step hf (fun _=>False.elim),t3,t4,t5,rfl,t7,t8⟩
structure OpD where
 ask:Int
 th:Int
 c:Cl
 av:Value
 tv:Value
 bv:Value
 n:Int
 which:Bool
 bl:List Bool
def OpD.vals (o:OpD):List Value:=[.int .i64 o.ask,.int .i64 o.th,.int .i64 o.c.kind,o.av,o.tv,.int .i64 o.c.ty,.int .i64 o.c.bits,.int .i64 o.c.count,.int .i64 o.c.rights,.int .i64 o.c.badge,.int .i64 o.c.value,.int .i64 o.c.offset,o.bv,.int .i64 o.n,.bool o.which]
structure b68 (w:World)(o:OpD):Prop where
 at_:ay w o.av o.c.at_
 ti:ay w o.tv o.c.to
 al:o.c.at_.length<=17592186044416
 tl:o.c.to.length<=17592186044416
 la:0<o.c.at_.length->∀k,o.av.ownBlock=some k->k<w.heap.size
 lt:0<o.c.to.length->∀k,o.tv.ownBlock=some k->k<w.heap.size
 th0:-9223372036854775808<=o.th
 th1:o.th<=9223372036854775807
 n0:-9223372036854775808<=o.n
 n1:o.n<=9223372036854775807
 bs:eo w o.bv o.bl
 bll:o.bl.length<=140737488351232
 lb:0<o.bl.length->∀k,o.bv.ownBlock=some k->k<w.heap.size
structure sa (w:World)(sv:Value)(l:List OpD):Prop where
 val:∃A cap,sv=.slice A l.length cap/\(0<l.length->∃g o,A=some ⟨g,o,none⟩/\∀i (hi:i<l.length) j x,(l[i].vals)[j]?=some x->w.cell? ⟨g,o+i*15+j,none⟩=some x)
 ops:∀o∈l,b68 w o
 len:l.length<=840000000000
end Go.Proofs.YtdpjgflemddekaaGreatDoor
namespace Go.Proofs.YtdpjgflemddekaaGreatDoor
open Go.RowKit Go.Shelf
def yx:Cl:=⟨1,[0],[3],5,3,2,0,0,0,0⟩
def be4:Cl:=⟨10,[3],[],0,0,0,0,0,9,7⟩
def bb1:Cl:=⟨9,[3],[],0,0,0,0,0,0,7⟩
def b14:dq:=⟨re,[⟨0,6⟩],[⟨64,1,0,0,0,0⟩]⟩
def br6:RS:=⟨b14,[],fun _=>0,[]⟩
def za:KS:=⟨kj,[]⟩
def k1:a_:=(yu za (jh za 0 yx [])).2.K
def r1:dq:=(j0 br6 0 yx 0 ⟨0,0,1,0,10,7,0,80,0⟩ []).2.R
def k2:a_:={k1 with ws:=qu k1.ws 87 9}
theorem bg3 {K:a_}(h:∀b,K.qs b=none):yj [] K:=
 ⟨fun b y e=>(by rw [h b] at e;cases e),fun _ hw=>(by cases hw),fun _ hw=>(by cases hw),List.nodup_nil⟩
theorem bh_:Ag br6 za:=⟨ay7,rfl,fun _ _=>rfl,bg3 (fun _=>rfl)⟩
theorem az_:Ag ⟨r1,[],fun _=>0,[]⟩ ⟨k1,[]⟩:=(bh_.retype rfl (p:=0) (by decide) 0 yx [] rfl).2.1
theorem b64:py za 64 yx []=(0,⟨k1,[]⟩):=by
 have hw:ao bh bz F0 za []=(za,[],true):=be8 _ _ rfl;unfold py;rw [show za.K.thr 64=some ⟨1,0,0,0,0⟩ from rfl];simp only;rw [if_neg (by decide),if_neg (by decide),if_pos (by decide),hw];rfl
theorem br1:k1.thr 64=some ⟨1,0,0,0,0⟩:=by rfl
theorem b28:az k1 0 [3]=some ⟨0,3⟩:=by rfl
theorem bg0:k1.held ⟨0,3⟩=some (.frame 80 3 7):=by rfl
theorem b07:az k2 0 [3]=some ⟨0,3⟩:=by rfl
theorem b39:Ag ⟨r1,[],k2.ws,[]⟩ ⟨k2,[]⟩:=by
 have hC1:=az_.core;exact ⟨⟨⟨hC1.rel.cap,hC1.rel.emp,hC1.rel.tree,hC1.rel.nodes,hC1.rel.thr⟩,hC1.geo,hC1.inN,hC1.dm,hC1.dn,hC1.nod,hC1.cap,hC1.hno,hC1.thd,hC1.hth,hC1.que,hC1.hen,hC1.nd,hC1.td,hC1.nb,hC1.tb,hC1.rt,hC1.dap⟩,rfl,fun _ _=>rfl,az_.q.same rfl (fun _ t e1 e2=>⟨t,e1,e2⟩)⟩
theorem bb_:yi r1 k2:=b39.core.rel
theorem bu_ (k:Nat)(hk:k<1024):k2.ws k=if k=87 then 9 else 0:=by
 show (if k=87 then 9 else k1.ws k)=_;have:=az_.ws k hk;rw [<- show (0:Int)=k1.ws k from this]
theorem bg5:r1.L=[⟨0,0,1,0,10,7,0,96,0⟩,⟨0,1,2,0,6,7,0,0,1⟩,⟨0,2,4,64,4,7,0,0,1⟩,⟨0,3,5,80,3,7,0,0,1⟩,⟨0,4,5,88,3,7,0,0,1⟩]:=by rfl
theorem b74 (i:Nat)(hi:i<1024):0<=k1.ws i/\k1.ws i<=4294967295:=by
 rw [<- show (0:Int)=k1.ws i from az_.ws i hi];decide
theorem b70 (i:Nat)(hi:i<1024):0<=k2.ws i/\k2.ws i<=4294967295:=by
 rw [bu_ i hi];split<;>decide
theorem b21:qg ⟨kj,[]⟩ 64 yx []=(0,0,⟨k1,[]⟩):=by
 unfold qg;rw [if_neg (by decide)];rw [show py ⟨kj,[]⟩ 64 yx []=_ from b64]
theorem b67:qg ⟨k1,[]⟩ 64 be4 []=(0,0,⟨k2,[]⟩):=by
 unfold qg px;rw [if_pos (by decide),br1];simp only;rw [if_neg (by decide)];unfold du ig el;rw [show be4.at_=[3] from rfl,b28];simp only [bg0];rfl
theorem b54:qg ⟨k2,[]⟩ 64 bb1 []=(9,0,⟨k2,[]⟩):=by
 have h9:=bu_ 87 (by decide);rw [if_pos rfl] at h9;unfold qg px;rw [if_pos (by decide),show k2.thr 64=_ from br1];simp only;rw [if_neg (by decide)];unfold du m_ el;rw [show bb1.at_=[3] from rfl,b07];simp only [show k2.held ⟨0,3⟩=_ from bg0];show (k2.ws 87,0,_)=_;rw [h9]
def ja (w0 w:World)(kb:Nat)(K:a_):Prop:=
 ∃V,s_ w kb ⟨K,[]⟩ V/\(∀k,V.fd kb k->w0.heap.size<=k)/\Fr w0 w (fun _=>False)
theorem ja.out {w0 w w':World}{kb:Nat}{V:ah}{K:a_}(h4:∀k,V.fd kb k->w0.heap.size<=k)(h5:Fr w0 w (fun _=>False))(h:fg w kb V ⟨K,[]⟩ w'):ja w0 w' kb K:=by
 obtain ⟨V',a1,a4,a5⟩:=h;exact ⟨V',a1,fun k hk=>(a5 k hk).elim (h4 k) (fun h=>Nat.le_trans h5.size h),h5.step a4 (fun k hk=>.inr (h4 k hk))⟩
theorem ja.base {w0 w:World}{kb:Nat}{K:a_}(h:ja w0 w kb K):Fr w0 w (fun _=>False):=by
 obtain ⟨V,h1,h4,h5⟩:=h;exact h5
theorem ab3 {w:World}{b:Nat}{x:Int}{t:TypeId}(h:w.heap[b]?=some (.cells #[.int .i64 x] t (0,0))):ay w (.slice (some ⟨b,0,none⟩) 1 1) [x]:=
 ⟨_,_,rfl,fun _=>⟨b,0,rfl,fun i hi=>by have:i=0:=by simpa using hi
                                       subst this;exact aa (o:=0) h rfl⟩⟩
theorem a52 (w:World):ay w (.slice none 0 0) []:=⟨none,0,rfl,fun h=>absurd h (by decide)⟩
theorem a9_ {w w':World}{kb:Nat}{V:ah}(hgl:ev w)(h2:aq w' kb V)(h3:V.ker=kj)(h4:V.dv=.slice none 0 0)(h5:∀k,V.fp kb k->w.heap.size<=k)(h6:Fr w w' (fun _=>False)):ja w w' kb kj:=by
 have hfd:∀k,V.fd kb k->w.heap.size<=k:=by
  rintro k (e | e)
  ·exact h5 k e
  ·rw [h4] at e;cases e
 have:=hgl.lt;refine ⟨V,⟨⟨h2,h3,?_,fun k hk=>by rw [h4] at hk;cases hk⟩,ev.fr hgl h6,fun k hk=>by have:=hfd k hk;omega⟩,hfd,h6⟩
 rw [h4];exact World.ownsRow_nil _ _ _ _
theorem ba9 (w:World)(hgl:ev w):Calls Tryz.prog 10 #[] w fun e w'=>∃kb,e=.returned (.pointer (some ⟨kb,0,none⟩))/\ja w w' kb kj:=
 (a15 w hgl.n0 hgl.n1).mono fun _ _ ⟨kb,_,h1,h2,h3,h4,h5,h6⟩=>⟨kb,h1,a9_ hgl h2 h3 h4 h5 h6⟩
theorem ai3 {W1:World}{kb:Nat}{S:KS}{V:ah}(h:s_ W1 kb S V){b:Nat}(hb:W1.heap.size<=b){n c:Nat}(k:Nat)(hk:(Value.slice (some ⟨b,0,none⟩) n c).ownBlock=some k):¬V.fd kb k:=fun e=>by
 have h1:b=k:=by simpa [Value.ownBlock] using hk
 have:=h.lt e;omega
theorem bo7 (S:KS)(V:ah)(kb:Nat)(c:Cl)(av tv:Value)(th:Int)(w:World)(hc:CallI w kb S V c av tv)(hw:∀i,i<1024->0<=S.K.ws i/\S.K.ws i<=4294967295):
 Calls Tryz.prog 11 (kf kb th c av tv (.slice none 0 0)) w (fun e w'=>e=.returned (.tuple #[.int .i64 (qg S th c []).1,.int .i64 (qg S th c []).2.1])/\fg w kb V (qg S th c []).2.2 w'):=
 b40 S V kb c av tv (.slice none 0 0) [] th w ⟨hc,ay2.none _ _ _,fun h=>absurd h (by decide)⟩ hw
theorem bn_ {w0:World}(W1 W:World)(kb bA bT:Nat)(h:ja w0 W1 kb kj)(hf:Fr W1 W (fun _=>False))(lA:W1.heap.size<=bA)(lT:W1.heap.size<=bT){t t':TypeId}(hA:W.heap[bA]?=some (.cells #[.int .i64 0] t (0,0)))(hT:W.heap[bT]?=some (.cells #[.int .i64 3] t' (0,0))):
 Calls Tryz.prog 11 #[.pointer (some ⟨kb,0,none⟩),.int .i64 64,.agg #[.int .i64 1,.slice (some ⟨bA,0,none⟩) 1 1,.slice (some ⟨bT,0,none⟩) 1 1,.int .i64 5,.int .i64 3,.int .i64 2,.int .i64 0,.int .i64 0,.int .i64 0,.int .i64 0],.slice none 0 0] W
  fun e w'=>e=.returned (.tuple #[.int .i64 0,.int .i64 0])/\ja w0 w' kb k1:=by
 obtain ⟨V,h1,h4,h5⟩:=h;have h1w:=h1.frame hf (fun _ _=>id) (fun _=>False.elim);have hx:=bo7 ⟨kj,[]⟩ V kb yx (.slice (some ⟨bA,0,none⟩) 1 1) (.slice (some ⟨bT,0,none⟩) 1 1) 64 W
  ⟨h1w,⟨_,bh_⟩,ab3 hA,ab3 hT,by decide,by decide,fun _ _ _ e=>by cases e;decide,fun _ _ _ e=>by cases e;decide,fun _=>ai3 h1 lA,fun _=>ai3 h1 lT⟩ (fun _ _=>(by decide:(0:Int)<=0/\(0:Int)<=4294967295))
 refine hx.mono ?_;rintro e w' ⟨he,ho⟩;rw [b21] at ho he;exact ⟨he,ja.out h4 (h5.step hf (fun _=>False.elim)) ho⟩
theorem bm3 {w0:World}(W1 W:World)(kb bA:Nat)(h:ja w0 W1 kb k1)(hf:Fr W1 W (fun _=>False))(lA:W1.heap.size<=bA){t:TypeId}(hA:W.heap[bA]?=some (.cells #[.int .i64 3] t (0,0))):
 Calls Tryz.prog 11 #[.pointer (some ⟨kb,0,none⟩),.int .i64 64,.agg #[.int .i64 10,.slice (some ⟨bA,0,none⟩) 1 1,.slice none 0 0,.int .i64 0,.int .i64 0,.int .i64 0,.int .i64 0,.int .i64 0,.int .i64 9,.int .i64 7],.slice none 0 0] W
  fun e w'=>e=.returned (.tuple #[.int .i64 0,.int .i64 0])/\ja w0 w' kb k2:=by
 obtain ⟨V,h1,h4,h5⟩:=h;have h1w:=h1.frame hf (fun _ _=>id) (fun _=>False.elim);have hx:=bo7 ⟨k1,[]⟩ V kb be4 (.slice (some ⟨bA,0,none⟩) 1 1) (.slice none 0 0) 64 W
  ⟨h1w,⟨_,az_⟩,ab3 hA,a52 W,by decide,by decide,fun _ _ _ e=>by cases e;decide,fun _ _ _ e=>by cases e;decide,fun _=>ai3 h1 lA,fun _ k hk=>by cases hk⟩ b74
 refine hx.mono ?_;rintro e w' ⟨he,ho⟩;rw [b67] at ho he;exact ⟨he,ja.out h4 (h5.step hf (fun _=>False.elim)) ho⟩
theorem bn8 {w0:World}(W1 W:World)(kb bA:Nat)(h:ja w0 W1 kb k2)(hf:Fr W1 W (fun _=>False))(lA:W1.heap.size<=bA){t:TypeId}(hA:W.heap[bA]?=some (.cells #[.int .i64 3] t (0,0))):
 Calls Tryz.prog 11 #[.pointer (some ⟨kb,0,none⟩),.int .i64 64,.agg #[.int .i64 9,.slice (some ⟨bA,0,none⟩) 1 1,.slice none 0 0,.int .i64 0,.int .i64 0,.int .i64 0,.int .i64 0,.int .i64 0,.int .i64 0,.int .i64 7],.slice none 0 0] W
  fun e w'=>e=.returned (.tuple #[.int .i64 9,.int .i64 0])/\ja w0 w' kb k2:=by
 obtain ⟨V,h1,h4,h5⟩:=h;have h1w:=h1.frame hf (fun _ _=>id) (fun _=>False.elim);have hx:=bo7 ⟨k2,[]⟩ V kb bb1 (.slice (some ⟨bA,0,none⟩) 1 1) (.slice none 0 0) 64 W
  ⟨h1w,⟨_,b39⟩,ab3 hA,a52 W,by decide,by decide,fun _ _ _ e=>by cases e;decide,fun _ _ _ e=>by cases e;decide,fun _=>ai3 h1 lA,fun _ k hk=>by cases hk⟩ b70
 refine hx.mono ?_;rintro e w' ⟨he,ho⟩;rw [b54] at ho he;exact ⟨he,ja.out h4 (h5.step hf (fun _=>False.elim)) ho⟩
theorem bb4 {w0:World}(W:World)(kb:Nat)(h:ja w0 W kb k2):
 Calls Tryz.prog 12 #[.pointer (some ⟨kb,0,none⟩),.int .i64 87] W fun e w'=>e=.returned (.tuple #[.int .i64 9,.int .i64 0])/\w'=W:=by
 obtain ⟨V,h1,h4,h5⟩:=h;have h2:V.ker=k2:=h1.kd.eq;have hw:∀i,i<1024->V.ws i=if i=87 then 9 else 0:=fun i hi=>by
  have e1:V.ws i=k2.ws i:=by rw [<- h2];rfl
  rw [e1];exact bu_ i hi
 refine (xj V kb 87 W h1.kd.ker (fun i hi=>by rw [hw i hi];split<;>decide)).mono ?_
 rintro e w' ⟨he,ho⟩;refine ⟨?_,ho⟩;have h87:=hw 87 (by decide);rw [he];unfold mn;simp [h87]
structure b83 (w:World)(g:Nat):Prop where
 mark:w.cell? ⟨g,7,none⟩=some (.int .i64 96)
 base:w.cell? ⟨g,43,none⟩=some (.int .i64 88)
 index:w.cell? ⟨g,41,none⟩=some (.int .i64 4)
theorem bc4 {w0:World}(hgl:ev w0)(W:World)(kb:Nat)(h:ja w0 W kb k2):
 Calls Tryz.prog 13 #[.pointer (some ⟨kb,0,none⟩)] W fun e w'=>∃g cap,e=.returned (.slice (some ⟨g,0,none⟩) 5 cap)/\b83 w' g/\Fr w0 w' (fun _=>False):=by
 obtain ⟨V,h1,h4,h5⟩:=h;have h2:V.ker=k2:=h1.kd.eq;obtain ⟨F,hF⟩:=bb_.tree;obtain ⟨y,hy,hk⟩:=hF.roots;rw [<- h2] at hy;obtain ⟨x,hx,hp,hkx⟩:=rp (V:=V) (s:=nowhere) (x:=y) hy;have hcaps:=bb_.caps hF;have hl:F.slots.length=5:=by rw [hF.slots,bg5];rfl
 have hst:F.In (cx V.M) nowhere:=by have:=hF.stands;rw [<- h2] at this;exact this
 refine (ar1 V kb W h1.kd.ker (ev.fr hgl h5) F x hst hx (hkx.trans hk) (fun s hs=>by rw [h2];exact (mz bb_ hF).1 hs) (by omega)).mono ?_
 rintro e w' ⟨v,he,ho,hf⟩;rw [h2,hcaps,hl,bg5] at ho;obtain ⟨A,cap,rfl,hA⟩:=bm (f:=ov.vals) ov.vals_len ho;obtain ⟨g,rfl,hc⟩:=hA (by decide);have e0:=aw9 hc 0 (by decide);have e4:=aw9 hc 4 (by decide);exact ⟨g,cap,he,⟨e0.c7,e4.c3,e4.c1⟩,h5.step hf (fun _=>False.elim)⟩
theorem bf3 (W:World)(o o':Obj):((W.alloc o).alloc o').heap[W.heap.size]?=some o/\((W.alloc o).alloc o').heap[W.heap.size+1]?=some o':=by
 have h:=heap_alloc_new (W.alloc o) o';rw [World.size_alloc] at h;exact ⟨((Fr.refl (W.alloc o) (fun _=>False)).alloc o').same (heap_alloc_new W o) id,h⟩
theorem xm (w:World)(hgl:ev w):
 Calls Tryz.prog 7 #[] w fun e w'=>e=.returned (.bool true)/\Fr w w' (fun _=>False):=by
 go_enter Tryz.func7,Tryz.ntmps7
 go_upto_region 4 with (go_at_call 10;refine (ba9 _ hgl).mono ?_;rintro e W1 ⟨kb,rfl,h1⟩)
 have c1:=bn_ W1 ((W1.alloc (.cells #[.int .i64 0] 3)).alloc (.cells #[.int .i64 3] 3)) kb W1.heap.size (W1.heap.size+1) h1 (((Fr.refl _ _).alloc _).alloc _) (Nat.le_refl _) (by omega) (bf3 W1 _ _).1 (bf3 W1 _ _).2;go_upto_region 5 with (go_at_call 11;refine c1.mono ?_;rintro e W2 ⟨rfl,h2⟩)
 clear c1 h1;have c2:=bm3 W2 (W2.alloc (.cells #[.int .i64 3] 3)) kb W2.heap.size h2 ((Fr.refl _ _).alloc _) (Nat.le_refl _) (heap_alloc_new _ _);go_upto_region 6 with (go_at_call 11;refine c2.mono ?_;rintro e W3 ⟨rfl,h3⟩)
 clear c2 h2;have c3:=bb4 W3 kb h3;go_upto_region 7 with (go_at_call 12;refine c3.mono ?_;rintro e W4 ⟨rfl,rfl⟩)
 clear c3;have c4:=bn8 W4 (W4.alloc (.cells #[.int .i64 3] 3)) kb W4.heap.size h3 ((Fr.refl _ _).alloc _) (Nat.le_refl _) (heap_alloc_new _ _);go_upto_region 8 with (go_at_call 11;refine c4.mono ?_;rintro e W5 ⟨rfl,h5⟩)
 clear c4 h3;have c5:=bc4 hgl W5 kb h5;go_upto_region 9 with (go_at_call 13;refine c5.mono ?_;rintro e W6 ⟨g,cap,rfl,h6,hf6⟩)
 clear c5 h5;obtain ⟨m1,m2,m3⟩:=h6;go_wp2;go_ret;exact ⟨rfl,hf6⟩
end Go.Proofs.YtdpjgflemddekaaGreatDoor
