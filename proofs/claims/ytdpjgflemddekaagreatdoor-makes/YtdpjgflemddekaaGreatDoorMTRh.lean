/- The document's answer: Retype, with its reset. -/
import Derived.Test.YtdpjgflemddekaaGreatDoorMTRf
import Derived.Deep.RegionHeld
set_option maxRecDepth 100000
set_option maxHeartbeats 4000000
namespace Go.Proofs.YtdpjgflemddekaaGreatDoor
open Go.RowKit
theorem bg4:(Tryz.prog.info? 110).map (fun i=>(i.zero,i.size,i.bytes))=some (some (.agg #[.int .i64 0,.int .i64 0]),2,16):=by kernel_rfl
theorem bh8:(Tryz.prog.info? 112).map (fun i=>(i.zero,i.size,i.bytes))=some (some (.agg #[.int .i64 0,.int .i64 0,.int .i64 0,.int .i64 0,.int .i64 0,.int .i64 0]),6,48):=by kernel_rfl
theorem mi {w W1:World}{kb:Nat}{S:RS}{V:ax}(h:RD w kb S V)(hf:Fr w W1 (fun _=>False)){x:Int}{y:Int×RS}(hy:y=(x,S)):
 tk w kb V y (.returned (.int .i64 x)) W1:=by
 subst hy;exact ⟨rfl,V,h.frame hf (fun _ _=>id),hf.mono (fun _=>False.elim),fun k hk=>.inl hk⟩
theorem ap9 {w:World}{g o:Nat}{u v:Value}(h:w.cell? ⟨g,o,none⟩=some u):(w.setCell ⟨g,o,none⟩ v).cell? ⟨g,o,none⟩=some v:=by
 simp only [World.cell?] at h ⊢;simp only [World.setCell,Array.getElem?_modify];cases hb:w.heap[g]? with
 | none=>rw [hb] at h;simp at h
 | some b=>
  rw [hb] at h;cases b<;>simp_all
  rename_i c _ _;have:=(Array.getElem?_eq_some_iff.1 h).1;simp [this]
theorem bq2 (ws:Nat->Int)(a:Int):ou ws a 0=ws:=by
 funext i;unfold ou;rw [if_neg (by omega)]
theorem bu9 (ws:Nat->Int){b m mk:Int}(hb:0<=b)(hm:0<m)(hk:m<=mk):(fun k=>if k=(b+(m-1)).toNat then 0 else ou ws (b+m) (mk-m) k)=ou ws (b+(m-1)) (mk-(m-1)):=by
 funext k;unfold ou;by_cases e:k=(b+(m-1)).toNat
 ·rw [if_pos e,if_pos (by omega)]
 ·rw [if_neg e];by_cases h:b+m<=(k:Int)/\(k:Int)<b+m+(mk-m)
  ·rw [if_pos h,if_pos (by omega)]
  ·rw [if_neg h,if_neg (by omega)]
theorem bx0 {w W1 W2:World}{kb:Nat}{S:RS}{V U:ax}(h:RD W1 kb S U)(hV:∀k,U.fq kb k->V.fq kb k)(hf:Fr w W1 (V.fp kb))(hf2:Fr W1 W2 (fun _=>False)){x:Int}:
 tk w kb V (x,S) (.returned (.int .i64 x)) W2:=
 ⟨rfl,U,h.frame hf2 (fun _ _=>id),(hf.mono (fun _ hk=>.inl hk)).step hf2 (fun _=>False.elim),fun k hk=>.inl (hV k hk)⟩
def b55 (w:World)(kb:Nat)(R1:dq)(V:ax)(root:Int)(p:Nat)(up n ix:Int)(c:Cl)(s:Int)(k:Nat)(box:Obj)(iv:Value)(w':World):Prop:=
 ∃(i:Nat) (lv nv tv:Value),i<=k/\iv=.int .i64 i/\aj w' kb (jl R1 root p up n ix c s i) {V with lv:=lv,nv:=nv,tv:=tv}/\Fr w w' (V.fp kb)/\w.heap.size+4<=w'.heap.size/\
  (∀r,({V with lv:=lv,nv:=nv,tv:=tv}:ax).fp kb r->V.fp kb r\/w.heap.size+4<=r)/\w'.heap[w.heap.size]?=some box
theorem bg2 (S:RS)(V:ax)(kb:Nat)(bs:List Bool)(w:World)(h:RB w kb S V bs):
 Calls Tryz.prog 103 #[.pointer (some ⟨kb,0,none⟩)] w fun e' w'=>e'=.returned (.bool (!(ar bs).1))/\
  ∃bv,RD w' kb S {V with bv:=bv,sv:=.bool (ar bs).1}/\Fr w w' (fun k=>k=kb)/\((ar bs).1=false->RB w' kb S {V with bv:=bv,sv:=.bool (ar bs).1} (ar bs).2):=by
 refine (a42 S V kb bs w h.rd ⟨h.b,h.s,h.out⟩).mono ?_;rintro e w' ⟨rfl,bv,hb,hg,hrd,hf⟩;refine ⟨rfl,bv,hrd,hf,fun hgo=>⟨hrd,hb,?_,?_⟩⟩
 ·show Value.bool _=_;rw [hgo]
 ·intro g hg' h0;have hlen:0<bs.length:=by cases bs with
   | nil=>simp [ar] at h0
   | cons b r=>simp
  obtain ⟨h1,h2⟩:=h.out g (hg g hg') hlen;exact ⟨h1,Nat.lt_of_lt_of_le h2 hf.size⟩
structure wh (V V':ax):Prop where
 l:V'.lv=V.lv
 n:V'.nv=V.nv
 t:V'.tv=V.tv
 d:V'.dv=V.dv
 q:V'.qv=V.qv
theorem wh.fp {V V':ax}(h:wh V V')(kb k:Nat):V'.fp kb k ↔ V.fp kb k:=by unfold ax.fp;rw [h.l,h.n,h.t]
theorem wh.fq {V V':ax}(h:wh V V')(kb k:Nat):V'.fq kb k ↔ V.fq kb k:=by unfold ax.fq;rw [h.fp kb k,h.d,h.q]
theorem ag1 (S:RS)(p:Nat)(hp:p<S.R.L.length):fy S p S.R.L[p] S.R.L[p].mark=S:=by
 unfold fy;rw [Int.sub_self,bq2];have:S.R.L.set p {S.R.L[p] with mark:=S.R.L[p].mark}=S.R.L:=List.set_getElem_self hp;rw [this]
theorem RB.resetStep {w:World}{kb:Nat}{R:dq}{D:List (Int×Int)}{ws:Nat->Int}{que:List Wt}{V V1:ax}{bs:List Bool}{p g cap:Nat}{m:Int}(hp:p<R.L.length)(h:RB w kb (fy ⟨R,D,ws,que⟩ p R.L[p] m) V1 bs)(hV:wh V V1)
 (hlv:V.lv=.slice (some ⟨g,0,none⟩) R.L.length cap) (hb:0<=R.L[p].base) (hm:0<m) (hm2:m<=R.L[p].mark) (hb2:R.L[p].base+R.L[p].mark<=1024) :
 ∃V2,RB ((w.setCell ⟨g,p*9+7,none⟩ (.int .i64 (m-1))).setCell ⟨kb,1+(R.L[p].base+(m-1)).toNat,none⟩ (.int .i64 0)) kb (fy ⟨R,D,ws,que⟩ p R.L[p] (m-1)) V2 bs/\wh V V2/\
  Fr w ((w.setCell ⟨g,p*9+7,none⟩ (.int .i64 (m-1))).setCell ⟨kb,1+(R.L[p].base+(m-1)).toNat,none⟩ (.int .i64 0)) (V.fp kb):=by
 have hlen:(R.L.set p {R.L[p] with mark:=m}).length=R.L.length:=by simp
 have h1:=h.rd.ref.setMark (p:=p) (g:=g) (cap:=cap) (by show p<(R.L.set p {R.L[p] with mark:=m}).length;rw [hlen];exact hp) (by rw [hV.l,hlv];show _=Value.slice _ (R.L.set p {R.L[p] with mark:=m}).length cap;rw [hlen]) (m-1);have h2:=h1.setWord (i:=(R.L[p].base+(m-1)).toNat) (by omega) 0;rw [show (R.L[p].base+(m-1)).toNat+1=1+(R.L[p].base+(m-1)).toNat from Nat.add_comm _ _] at h2;have hf:Fr w ((w.setCell ⟨g,p*9+7,none⟩ (.int .i64 (m-1))).setCell ⟨kb,1+(R.L[p].base+(m-1)).toNat,none⟩ (.int .i64 0)) (V.fp kb):=
  Fr.setCell ((Fr.refl w (V.fp kb)).setCell (.inl (.inr (.inl (by rw [hlv];rfl)))) _ _) (.inl (.inl rfl)) _ _
 have hset:(R.L.set p {R.L[p] with mark:=m}).set p {(R.L.set p {R.L[p] with mark:=m})[p]'(by rw [hlen];exact hp) with mark:=m-1}=R.L.set p {R.L[p] with mark:=m-1}:=by
  rw [List.set_set];congr 1;simp
 have hws:(fun k=>if k=(R.L[p].base+(m-1)).toNat then 0 else V1.ws k)=ou ws (R.L[p].base+(m-1)) (R.L[p].mark-(m-1)):=by
  rw [<- bu9 ws hb hm hm2];have:V1.ws=ou ws (R.L[p].base+m) (R.L[p].mark-m):=h.rd.ws;rw [this]
 refine ⟨{V1 with ws:=fun k=>if k=(R.L[p].base+(m-1)).toNat then 0 else V1.ws k},?_,⟨hV.l,hV.n,hV.t,hV.d,hV.q⟩,hf⟩
 have hnf:∀k,V1.dv.ownBlock=some k->¬V.fp kb k:=fun k hk e=>h.rd.dk k hk ((hV.fp kb k).2 e)
 refine ⟨⟨?_,hws,hf.owns h.rd.d hnf,h.rd.dk,hf.owns h.rd.q (fun k hk e=>(h.rd.qk k hk).1 ((hV.fp kb k).2 e)),h.rd.qk⟩,h.b.frame hf (fun g hg h0 e=>(h.out g hg h0).1 (.inl ((hV.fp kb g).2 e))),h.s,fun g hg h0=>⟨(h.out g hg h0).1,Nat.lt_of_lt_of_le (h.out g hg h0).2 hf.size⟩⟩
 show aj _ kb {R with L:=R.L.set p {R.L[p] with mark:=m-1}} _;rw [<- hset];exact h2
theorem a74 (R:dq)(D:List (Int×Int))(ws:Nat->Int)(que:List Wt)(V:ax)(kb:Nat)(root:Int)(c:Cl)(av tv:Value)(p:Nat)(bs:List Bool)(w:World)(HB:RB w kb ⟨R,D,ws,que⟩ V bs)
 (hn:R.L.length<=900000) (hm:R.N.length<=900000) (ho:R.T.length<=900000) (hb:∀l∈R.N,0<=l.bits/\l.bits<=20) (hp:p<R.L.length) (hl:c.to.length<=9000000000000000000)
 (hN1:0<R.N.length) (hu0:0<=R.L[p].up) (hu1:R.L[p].up<=900000) (htv:ay w tv c.to)
 (hm0:0<=R.L[p].mark) (hm1:R.L[p].mark<=1024) (hs0:0<=R.L[p].base) (hs1:R.L[p].base+R.L[p].mark<=1024) (hb1:R.L[p].bits<=20) :
 Calls Tryz.prog 83 #[.pointer (some ⟨kb,0,none⟩),.int .i64 root,.agg (c.cells av tv),.int .i64 p,.agg #[.int .i64 R.L[p].ty,.int .i64 R.L[p].base,.int .i64 R.L[p].bits,.int .i64 R.L[p].rights,.int .i64 R.L[p].badge,.int .i64 R.L[p].mark]] w
  (tk w kb V (j0 ⟨R,D,ws,que⟩ root c p R.L[p] bs)):=by
 have h:=HB.rd.ref;generalize hyy:j0 ⟨R,D,ws,que⟩ root c p R.L[p] bs=y;have HYG:Hid (j0 ⟨R,D,ws,que⟩ root c p R.L[p] bs=y):=hyy;clear hyy;obtain ⟨g,cap,hlv,hcap,hglt,e0,e1,e2,e3,e4,e5,e6,e7,e8⟩:=fe h p hp;have HL:Hid (V.lv=.slice (some ⟨g,0,none⟩) R.L.length cap):=hlv;have hcl:=h.cl;rw [hlv] at hcl;clear hlv;have hklt:kb<w.heap.size:=World.block_lt_of_cell? w _ hcl;have hV:∀k,V.fp kb k->k<w.heap.size:=fun k hk=>h.fpLt hk
 unfold Cl.cells;by_cases ht:¬R.L[p].ty=1
 ·have HC:Hid (y=(3,⟨R,D,ws,que⟩)):=by show _=_;rw [<- HYG.out];exact if_pos ht
  have ht':(R.L[p].ty != 1)=true:=by simpa using ht
  clear ht;go_enter Tryz.func83,Tryz.ntmps83
  go_wp2_with fail
  go_ret;exact mi HB.rd (((Fr.refl _ _).alloc _).alloc _) HC.out
 have HT:Hid (R.L[p].ty=1):=by show _=_;omega
 have ht':(R.L[p].ty != 1)=false:=by simpa using ht
 clear ht;go_enter Tryz.func83,Tryz.ntmps83
 go_wp2_with fail
 generalize hW1:((((w.alloc _).alloc _).alloc _).alloc _)=W1;have hf1:Fr w W1 (fun _=>False):=by rw [<- hW1];exact ((((Fr.refl _ _).alloc _).alloc _).alloc _).alloc _
 have hsz1:W1.heap.size=w.heap.size+4:=by rw [<- hW1];simp
 have h4:=b58 w (.cells #[.int .i64 c.kind,av,tv,.int .i64 c.ty,.int .i64 c.bits,.int .i64 c.count,.int .i64 c.rights,.int .i64 c.badge,.int .i64 c.value,.int .i64 c.offset] 41 (0,0)) (.cells #[.int .i64 R.L[p].ty,.int .i64 R.L[p].base,.int .i64 R.L[p].bits,.int .i64 R.L[p].rights,.int .i64 R.L[p].badge,.int .i64 R.L[p].mark] 46 (0,0))
  (.cells #[.int .i64 0,.int .i64 4,.int .i64 3,.int .i64 2,.int .i64 4,.int .i64 2] 3 (0,0)) (.cells #[.int .i64 0,.int .i64 10,.int .i64 6,.int .i64 2,.int .i64 4,.int .i64 6] 3 (0,0))
 rw [hW1] at h4;obtain ⟨hba,hbh,hle0,hmo0⟩:=h4;have hle:∀t:Nat,1<=t->t<=5->W1.cell? ⟨w.heap.size+2,t,none⟩=some (.int .i64 (yr t)):=by
  intro t h1 h2;obtain rfl | rfl | rfl | rfl | rfl:t=1\/t=2\/t=3\/t=4\/t=5:=by omega
  all_goals exact aa hle0 rfl
 have hmo:∀t:Nat,1<=t->t<=5->W1.cell? ⟨w.heap.size+3,t,none⟩=some (.int .i64 (ak5 t)):=by
  intro t h1 h2;obtain rfl | rfl | rfl | rfl | rfl:t=1\/t=2\/t=3\/t=4\/t=5:=by omega
  all_goals exact aa hmo0 rfl
 clear hW1 hle0 hmo0;have k3:=aa (o:=3) hba rfl;have k4:=aa (o:=4) hba rfl;have k5:=aa (o:=5) hba rfl;have hbad:rh c=false->Hid (y=(7,⟨R,D,ws,que⟩)):=fun hk=>by
  show _=_;rw [<- HYG.out];unfold j0;rw [if_neg (by have:=HT.out;omega),if_pos hk]
 by_cases q1:c.ty<1
 ·have HC:=hbad (by simp [rh];omega);have hd:decide (c.ty<1)=true:=by simpa using q1
  go_quiet (fail)
  go_wp2;go_ret;exact mi HB.rd (hf1.drewN nq) HC.out
 by_cases q2:5<c.ty
 ·have HC:=hbad (by simp [rh];omega);have hd:decide (c.ty<1)=false:=by simpa using q1
  have hd2:decide (5<c.ty)=true:=by simpa using q2
  go_quiet (fail)
  go_wp2;go_ret;exact mi HB.rd (hf1.drewN nq) HC.out
 obtain ⟨t,hty⟩:∃t:Nat,c.ty=(t:Int):=⟨c.ty.toNat,by omega⟩;have hl1:=hle t (by omega) (by omega);have hl2:=hmo t (by omega) (by omega);have HY:Hid (c.ty=(t:Int)):=hty;have ht1:1<=(t:Int):=by omega
 have ht5:(t:Int)<=5:=by omega
 have d1:decide ((t:Int)<1)=false:=by simp;omega
 have d2:decide (5<(t:Int))=false:=by simp;omega
 rw [hty] at k3 ⊢;clear hty q1 q2 hle hmo;have htn:c.ty.toNat=t:=by have:=HY.out;omega
 have HTN:Hid (c.ty.toNat=t):=htn;clear htn;by_cases q3:c.bits<yr t
 ·have HC:=hbad (by have:=HTN.out;simp [rh,this];omega);have dd0:decide (c.bits<yr t)=true:=by simpa using q3
  go_quiet (fail)
  go_wp2;go_ret;exact mi HB.rd (hf1.drewN nq) HC.out
 have dd0:decide (c.bits<yr t)=false:=by simpa using q3
 by_cases q4:ak5 t<c.bits
 ·have HC:=hbad (by have:=HTN.out;simp [rh,this];omega);have dd1:decide (ak5 t<c.bits)=true:=by simpa using q4
  go_quiet (fail)
  go_wp2;go_ret;exact mi HB.rd (hf1.drewN nq) HC.out
 have dd1:decide (ak5 t<c.bits)=false:=by simpa using q4
 by_cases q5:c.count<1
 ·have HC:=hbad (by have:=HTN.out;simp [rh,this];omega);have dd2:decide (c.count<1)=true:=by simpa using q5
  go_quiet (fail)
  go_wp2;go_ret;exact mi HB.rd (hf1.drewN nq) HC.out
 have dd2:decide (c.count<1)=false:=by simpa using q5
 by_cases q6:8<c.count
 ·have HC:=hbad (by have:=HTN.out;simp [rh,this];omega);have dd3:decide (8<c.count)=true:=by simpa using q6
  go_quiet (fail)
  go_wp2;go_ret;exact mi HB.rd (hf1.drewN nq) HC.out
 have dd3:decide (8<c.count)=false:=by simpa using q6
 have hokc:Hid (rh c=true):=by
  show _=_;have h1:=HTN.out;have h2:=HY.out;simp only [rh,decide_eq_true_eq];rw [h1];omega
 have hc1:1<=c.count:=by omega
 have hc8:c.count<=8:=by omega
 have hlb:0<=yr t:=by unfold yr;split<;>omega
 have hmb:ak5 t<=10:=by unfold ak5;split<;>omega
 have hbb0:0<=c.bits:=by omega
 have hbb1:c.bits<=10:=by omega
 have k2:W1.cell? ⟨w.heap.size,2,none⟩=some tv:=aa (o:=2) hba rfl;go_quiet (fail)
 clear hbad q3 q4 q5 q6 dd0 dd1 dd2 dd3 hl1 hl2 d1 d2 hlb hmb;go_wp2_with fail
 have hf2:Fr w (W1.drewN nq) (fun _=>False):=hf1.drewN nq;have h2:aj (W1.drewN nq) kb R V:=h.frame hf2 (fun _ _=>id);refine (mb R.L R.N kb V.lv V.nv tv root c.to _ (by omega) (by omega) hl h2.cl h2.ll h2.cn h2.lnn hb (htv.fr hf2 (fun _ _=>id))).mono ?_;rintro e w3 ⟨rfl,q,rfl⟩;have HC:Hid (y=match bk R.L R.N root c.to with
  | none=>(2,⟨R,D,ws,que⟩)
  | some (n,ix)=>
   if bf R.N n<ix+c.count then (2,⟨R,D,ws,que⟩)
   else if ko R.L n ix c.count.toNat then (4,⟨R,D,ws,que⟩)
   else if ie R.L p R.L[p].up=p+1 then
    if (b_ R.L[p].mark bs).2.2 then y_ (fy ⟨R,D,ws,que⟩ p R.L[p] (b_ R.L[p].mark bs).1) root c p {R.L[p] with mark:=(b_ R.L[p].mark bs).1} n ix
    else (8,fy ⟨R,D,ws,que⟩ p R.L[p] (b_ R.L[p].mark bs).1)
   else y_ ⟨R,D,ws,que⟩ root c p R.L[p] n ix):=by
  show _=_;have h1:=HT.out;have h3:=hokc.out;rw [<- HYG.out];unfold j0;rw [if_neg (by omega),if_neg (by rw [h3];simp)];rfl
 rw [mt];generalize hq:nq+q=q2;clear hq hf2 h2;cases hfi:bk R.L R.N root c.to with
 | none=>
  rw [hfi] at HC;dsimp only [ts];go_wp2;go_quiet (fail)
  go_wp2;go_ret;exact mi HB.rd ((hf1.drewN q2).drewN _) HC.out
 | some ni=>
  obtain ⟨n,ix⟩:=ni;rw [hfi] at HC;obtain ⟨hx0,hx1⟩:=an3 hfi;have hx2:=bu1 hb n;clear hfi;dsimp only [ts] at HC ⊢;by_cases q7:bf R.N n<ix+c.count
  ·rw [if_pos q7] at HC;have d7:decide (bf R.N n<ix+c.count)=true:=by simpa using q7
   go_wp2;go_quiet ((go_at_call 104;exact jp (uk R.N kb V.nv _ _ (by omega) (by exact (h.frame hf1 (fun _ _=>id)).cn) (by exact (h.frame hf1 (fun _ _=>id)).lnn) hb)))
   go_wp2;go_ret;exact mi HB.rd ((hf1.drewN q2).drewN _) HC.out
  rw [if_neg q7] at HC;have d7:decide (bf R.N n<ix+c.count)=false:=by simpa using q7
  go_wp2;go_quiet ((go_at_call 104;exact jp (uk R.N kb V.nv _ _ (by omega) (by exact (h.frame hf1 (fun _ _=>id)).cn) (by exact (h.frame hf1 (fun _ _=>id)).lnn) hb)))
  rw [mt];generalize hq:q2+_=q3;clear hq d7 q7;go_wp2;have hcn:=HL.out;have h3:aj (W1.drewN q3) kb R V:=h.frame (hf1.drewN q3) (fun _ _=>id);clear hcn;go_loopw [16] (fun iv w'=>w'=W1.drewN q3/\∃k:Nat,(k:Int)<=c.count/\iv=.int .i64 k/\ko R.L n ix k=false) (fun iv _=>(c.count-intOf iv).toNat)
  case atStart=>exact ⟨rfl,0,by omega,rfl,rfl⟩
  case round=>
   obtain ⟨rfl,k,hk,rfl,hno⟩:=hrel;by_cases hlt:(k:Int)<c.count
   ·go_wp2_with fail
    refine (jj R.L kb V.lv n (ix+k) _ (by omega) h3.cl h3.ll).mono ?_;rintro e w4 ⟨rfl,rfl⟩;rcases j6 (ee n (ix+k)) R.L with ⟨hx,hfi⟩ | ⟨x,hx',hx,hfi,_⟩
    ·unfold atI;rw [hx];have hno2:ko R.L n ix (k+1)=false:=by rw [a31,hno,hfi];rfl
     clear hno;go_wp2;go_roundw;case rel=>exact ⟨trivial,k+1,by omega,by go_num,hno2⟩
     case measure=>simp [intOf];omega
    ·unfold atI;rw [hx];have hfu:ko R.L n ix c.count.toNat=true:=ao8 (k:=k) (by omega) (by rw [hfi];rfl);rw [hfu] at HC;clear hfu hno;go_wp2;go_ret;exact mi HB.rd (hf1.drewN q3) HC.out
   ·have hkc:c.count.toNat=k:=by omega
    rw [hkc,hno,if_neg (by simp)] at HC;have HK:Hid (c.count.toNat=k):=hkc;clear hno hkc;go_upto_if 105 with (go_at_call 105;go_must (refine (me R.L kb V.lv p _ (by omega) hp h3.cl h3.ll).mono ?_);rintro e w4 ⟨rfl,q4,rfl⟩)
    have hRB4:=HB.after ⟨HB.rd.frame (hf1.drewN (q3+q4)) (fun _ _=>id),(hf1.drewN (q3+q4)).mono (fun _=>False.elim),fun _ hk=>.inl hk⟩ rfl rfl
    generalize hW4:W1.drewN (q3+q4)=W4 at hRB4 ⊢;have hf14:Fr W1 W4 (fun _=>False):=by rw [<- hW4];exact (Fr.refl _ _).drewN _
    clear hW4;have hbh4:=hf14.same hbh id;have hb41:=aa (o:=1) hbh4 rfl;have hws4:w.heap.size+4<=W4.heap.size:=by have:=hf14.size;omega
    generalize hTB:(((ie R.L p R.L[p].up:Nat):Int)==(p:Int)+1)=tb;have HTB:Hid ((((ie R.L p R.L[p].up:Nat):Int)==(p:Int)+1)=tb):=hTB;clear hTB;go_cut [10,17,18] (fun _ _ _ wx=>∃m2 V2 bs2,RB wx kb (fy ⟨R,D,ws,que⟩ p R.L[p] m2) V2 bs2/\wh V V2/\Fr W4 wx (V.fp kb)/\0<=m2/\m2<=R.L[p].mark/\Hid (y=y_ (fy ⟨R,D,ws,que⟩ p R.L[p] m2) root c p {R.L[p] with mark:=m2} n ix))
    case first=>
     cases tb with
     | true=>
      have hen:ie R.L p R.L[p].up=p+1:=by have:=HTB.out;simp at this;omega
      rw [if_pos hen] at HC;clear hen;generalize hry:b_ R.L[p].mark bs=ry at HC;have HRY:Hid (b_ R.L[p].mark bs=ry):=hry;clear hry;have hself:=ag1 ⟨R,D,ws,que⟩ p hp;have HSF:Hid (fy ⟨R,D,ws,que⟩ p R.L[p] R.L[p].mark=⟨R,D,ws,que⟩):=hself;clear hself;go_wp2;go_loopg [18] (R.L[p].mark.toNat) (fun j _ w'=>∃(n1:Nat) (m1:Int) (bs1:List Bool) (V1:ax),Aside (m1.toNat=j/\0<=m1/\m1<=R.L[p].mark/\m1<=16*n1/\ao (fun m=>max (m-16) 0) (fun m=>decide (m<=0)) n1 m1 bs1=ry/\RB w' kb (fy ⟨R,D,ws,que⟩ p R.L[p] m1) V1 bs1/\wh V V1/\Fr W4 w' (V.fp kb)))
      case atStart=>
       exact ⟨100,R.L[p].mark,bs,V,⟨rfl,hm0,Int.le_refl _,by omega,HRY.out,by rw [HSF.out];exact hRB4,⟨rfl,rfl,rfl,rfl,rfl⟩,Fr.refl _ _⟩⟩
      case round=>
       obtain ⟨n1,m1,bs1,V1,hA⟩:=hrel;obtain ⟨a1,a2,a3,a4,a5,a6,a7,a8⟩:=hA.out;clear hA;have hlvr:=a6.rd.ref.cl;rw [a7.l,HL.out] at hlvr;have hlen1:(fy ⟨R,D,ws,que⟩ p R.L[p] m1).R.L.length=R.L.length:=by unfold fy;simp
       obtain ⟨g',cap',hlv',_,hg',_,_,_,_,_,_,_,x7,_⟩:=fe a6.rd.ref p (by rw [hlen1];exact hp);rw [a7.l,HL.out,hlen1] at hlv';cases hlv'
       have x7':wr.cell? ⟨g,p*9+7,none⟩=some (.int .i64 m1):=by
        rw [x7];unfold fy;simp
       have hkr:kb<wr.heap.size:=World.block_lt_of_cell? _ _ hlvr;clear x7;by_cases hz:m1=0
       ·have HC2:Hid (y=y_ (fy ⟨R,D,ws,que⟩ p R.L[p] m1) root c p {R.L[p] with mark:=m1} n ix):=by
         show _=_;have:ry=(m1,bs1,true):=by
          rw [<- a5];cases n1 with
          | zero=>rfl
          | succ n1=>simp [ao,hz]
         rw [HC.out,this];rfl
        have hz':decide (0<m1)=false:=by simp [hz]
        have hnz:¬0<m1:=by omega
        clear hz a5;go_wp2;go_meet;case rel=>exact ⟨m1,V1,bs1,a6,a7,a8,a2,a3,HC2⟩
       ·have hpos:0<m1:=by omega
        have hnx:∃n2,n1=n2+1/\ry=(if (ar bs1).1 then (max (m1-16) 0,(ar bs1).2,false) else ao (fun m=>max (m-16) 0) (fun m=>decide (m<=0)) n2 (max (m1-16) 0) (ar bs1).2):=by
         cases n1 with
         | zero=>omega
         | succ n2=>exact ⟨n2,rfl,by rw [<- a5];exact am1 (by simp;omega)⟩
        obtain ⟨n2,rfl,hry⟩:=hnx;have AS:Aside (m1.toNat=gk/\m1<=16*((n2:Int)+1)/\ry=(if (ar bs1).1 then (max (m1-16) 0,(ar bs1).2,false) else ao (fun m=>max (m-16) 0) (fun m=>decide (m<=0)) n2 (max (m1-16) 0) (ar bs1).2)):=⟨a1,by push_cast at a4;omega,hry⟩
        clear hry a1 a4 a5 hz;go_wp2;go_loopw [17] (fun iv w'=>∃(i:Nat) (V2:ax),iv=.int .i64 i/\i<=16/\(i:Int)<=m1/\RB w' kb (fy ⟨R,D,ws,que⟩ p R.L[p] (m1-i)) V2 bs1/\wh V V2/\Fr W4 w' (V.fp kb)) (fun iv _=>16-(intOf iv).toNat)
        case atStart=>exact ⟨0,V1,rfl,by omega,by omega,by simpa using a6,a7,a8⟩
        case round=>
         obtain ⟨i,V2,rfl,hi16,him,hRB2,hV2,hf2⟩:=hrel;have hlv2:=hRB2.rd.ref.cl;rw [hV2.l,HL.out] at hlv2;have hlen2:(fy ⟨R,D,ws,que⟩ p R.L[p] (m1-i)).R.L.length=R.L.length:=by unfold fy;simp
         obtain ⟨g',cap',hlv',_,hg',_,_,_,_,_,_,_,x7,_⟩:=fe hRB2.rd.ref p (by rw [hlen2];exact hp);rw [hV2.l,HL.out,hlen2] at hlv';cases hlv'
         have x7':wr.cell? ⟨g,p*9+7,none⟩=some (.int .i64 (m1-i)):=by
          rw [x7];unfold fy;simp
         have hkr:kb<wr.heap.size:=World.block_lt_of_cell? _ _ hlv2;have z7:wr.frozen? ⟨g,p*9+7,none⟩=false:=by
          obtain ⟨_,_,hcc⟩:=nz hRB2.rd.ref.l (by rw [hV2.l,HL.out];rfl);exact ab hcc
         have b1r:=hf2.cell hb41 (fun e=>by have h9:w.heap.size+1<w.heap.size:=hV _ e;omega);clear x7;by_cases hmore:i<16/\0<m1-i
         ·obtain ⟨V3,hRB3,hV3,hf3⟩:=hRB2.resetStep hp hV2 HL.out hs0 hmore.2 (by omega) hs1;have d1:decide ((i:Int)<16)=true:=by simp;omega
          have hgk:g≠kb:=fun e=>h.kl (by rw [HL.out,e];rfl)
          have hcw:wr.cell? ⟨kb,1+(R.L[p].base+(m1-i-1)).toNat,none⟩=some (.int .i64 (V2.ws (R.L[p].base+(m1-i-1)).toNat)):=by rw [Nat.add_comm];exact hRB2.rd.ref.cw (by omega)
          have hzw:=hRB2.rd.ref.fz (1+(R.L[p].base+(m1-i-1)).toNat);obtain ⟨hm1a,hm1b⟩:=hmore;go_upto_region 21 with fail
          have hfA:Fr wr (wr.setCell ⟨g,p*9+7,none⟩ (.int .i64 (m1-i-1))) (fun k=>k=g):=Fr.s1 _ _ _ _;have cA0:=hfA.cell hlv2 (fun e=>hgk e.symm);have cA1:(wr.setCell ⟨g,p*9+7,none⟩ (.int .i64 (m1-i-1))).cell? ⟨g,p*9+7,none⟩=some (.int .i64 (m1-i-1)):=ap9 x7';have cA2:=hfA.cell hcw (fun e=>hgk e.symm);have cA3:=hfA.cell b1r (fun e=>by have e':w.heap.size+1=g:=e;omega);have cA4:(wr.setCell ⟨g,p*9+7,none⟩ (.int .i64 (m1-i-1))).frozen? ⟨kb,1+(R.L[p].base+(m1-i-1)).toNat,none⟩=false:=(World.frozen?_of_block (hfA.block kb hkr (fun e=>hgk e.symm))).trans hzw;generalize hWA:(wr.setCell ⟨g,p*9+2+5,none⟩ (.int .i64 (m1-i-1)))=WA;have hWA':(wr.setCell ⟨g,p*9+7,none⟩ (.int .i64 (m1-i-1)))=WA:=hWA;rw [hWA'] at hfA cA0 cA1 cA2 cA3 cA4 hRB3 hf3;clear hWA hWA';have hsum0:0<=R.L[p].base+(m1-i-1):=by omega
          have hsum1:R.L[p].base+(m1-i-1)<1024:=by omega
          clear hfA x7' hlv2 hcw b1r hzw z7 hRB2;go_region
          all_goals
           go_wp2;go_roundw;case rel=>
            have hcast:m1-((i+1:Nat):Int)=m1-i-1:=by push_cast;omega
            refine ⟨i+1,V3,by go_num,by omega,by omega,?_,hV3,?_⟩
            ·rw [hcast];exact hRB3.after ⟨hRB3.rd.frame ((Fr.refl _ (fun _=>False)).drew) (fun _ _=>id),(Fr.refl _ _).drew,fun _ hk=>.inl hk⟩ rfl rfl
            ·exact (hf2.step hf3 (fun k hk=>.inl hk)).drew
           case measure=>simp [intOf];omega
         ·have hmx:m1-i=max (m1-16) 0:=by omega
          have HMX:Hid (m1-i=max (m1-16) 0):=hmx;clear hmx;by_cases h16:i<16
          ·have hnp:¬0<m1-i:=fun e=>hmore ⟨h16,e⟩
           clear hmore;go_upto_region 22 with fail
           go_wp2_with fail
           refine (bg2 _ V2 kb bs1 _ hRB2).mono ?_;rintro x9 w9 ⟨rfl,bv9,hrd9,hf9,hRB9⟩;have hf9w:Fr W4 w9 (V.fp kb):=hf2.step hf9 (fun k hk=>.inl (.inl hk))
           by_cases hpb:(ar bs1).1=true
           ·rw [hpb] at hrd9 ⊢;obtain ⟨_,_,s3⟩:=AS.out;rw [if_pos hpb,<- HMX.out] at s3;have HYE:Hid (y=(8,fy ⟨R,D,ws,que⟩ p R.L[p] (m1-i))):=by show _=_;rw [HC.out,s3];rfl
            clear s3 hpb;go_wp2;go_ret;rw [HYE.out];refine ⟨rfl,_,hrd9,((hf1.step hf14 (fun _=>False.elim)).mono (fun _=>False.elim)).step hf9w (fun k hk=>.inl (.inl hk)),fun k hk=>?_⟩
            have h5:V2.fq kb k:=hk;exact .inl ((hV2.fq kb k).1 h5)
           ·have hpb':(ar bs1).1=false:=by simpa using hpb
            have hRBn:=hRB9 hpb';rw [hpb'] at hRBn ⊢;obtain ⟨s1,s2,s3⟩:=AS.out;rw [if_neg hpb,<- HMX.out] at s3;have ASN:Aside ((m1-i).toNat<gk/\0<=m1-i/\m1-i<=R.L[p].mark/\m1-i<=16*(n2:Int)/\ao (fun m=>max (m-16) 0) (fun m=>decide (m<=0)) n2 (m1-i) (ar bs1).2=ry):=by
             refine ⟨?_,?_,?_,?_,s3.symm⟩
             ·omega
             ·omega
             ·omega
             ·have:=HMX.out;omega
            clear s1 s2 s3 hpb hpb' hRB9;go_wp2;go_roundg (m1-i).toNat
            case measure=>exact ASN.out.1
            case rel=>exact ⟨n2,m1-i,(ar bs1).2,_,⟨rfl,ASN.out.2.1,ASN.out.2.2.1,ASN.out.2.2.2.1,ASN.out.2.2.2.2,hRBn,⟨hV2.l,hV2.n,hV2.t,hV2.d,hV2.q⟩,hf9w⟩⟩
          ·have hnp:¬(i:Int)<16:=by omega
           clear hmore;go_upto_region 22 with fail
           go_wp2_with fail
           refine (bg2 _ V2 kb bs1 _ hRB2).mono ?_;rintro x9 w9 ⟨rfl,bv9,hrd9,hf9,hRB9⟩;have hf9w:Fr W4 w9 (V.fp kb):=hf2.step hf9 (fun k hk=>.inl (.inl hk))
           by_cases hpb:(ar bs1).1=true
           ·rw [hpb] at hrd9 ⊢;obtain ⟨_,_,s3⟩:=AS.out;rw [if_pos hpb,<- HMX.out] at s3;have HYE:Hid (y=(8,fy ⟨R,D,ws,que⟩ p R.L[p] (m1-i))):=by show _=_;rw [HC.out,s3];rfl
            clear s3 hpb;go_wp2;go_ret;rw [HYE.out];refine ⟨rfl,_,hrd9,((hf1.step hf14 (fun _=>False.elim)).mono (fun _=>False.elim)).step hf9w (fun k hk=>.inl (.inl hk)),fun k hk=>?_⟩
            have h5:V2.fq kb k:=hk;exact .inl ((hV2.fq kb k).1 h5)
           ·have hpb':(ar bs1).1=false:=by simpa using hpb
            have hRBn:=hRB9 hpb';rw [hpb'] at hRBn ⊢;obtain ⟨s1,s2,s3⟩:=AS.out;rw [if_neg hpb,<- HMX.out] at s3;have ASN:Aside ((m1-i).toNat<gk/\0<=m1-i/\m1-i<=R.L[p].mark/\m1-i<=16*(n2:Int)/\ao (fun m=>max (m-16) 0) (fun m=>decide (m<=0)) n2 (m1-i) (ar bs1).2=ry):=by
             refine ⟨?_,?_,?_,?_,s3.symm⟩
             ·omega
             ·omega
             ·omega
             ·have:=HMX.out;omega
            clear s1 s2 s3 hpb hpb' hRB9;go_wp2;go_roundg (m1-i).toNat
            case measure=>exact ASN.out.1
            case rel=>exact ⟨n2,m1-i,(ar bs1).2,_,⟨rfl,ASN.out.2.1,ASN.out.2.2.1,ASN.out.2.2.2.1,ASN.out.2.2.2.2,hRBn,⟨hV2.l,hV2.n,hV2.t,hV2.d,hV2.q⟩,hf9w⟩⟩
     | false=>
      have hen:¬ie R.L p R.L[p].up=p+1:=by have:=HTB.out;simp at this;omega
      rw [if_neg hen] at HC;clear hen;have hself:=ag1 ⟨R,D,ws,que⟩ p hp;have HSF:Hid (fy ⟨R,D,ws,que⟩ p R.L[p] R.L[p].mark=⟨R,D,ws,que⟩):=hself;clear hself;go_wp2;go_meet;case rel=>exact ⟨R.L[p].mark,V,bs,by rw [HSF.out];exact hRB4,⟨rfl,rfl,rfl,rfl,rfl⟩,Fr.refl _ _,hm0,Int.le_refl _,by show _=_;rw [HSF.out];exact HC.out⟩
    case rest=>
     obtain ⟨m2,U,bs2,hRB2,hV2,hfc,hm20,hm21,HC2⟩:=hcut;have hLU:U.lv=.slice (some ⟨g,0,none⟩) R.L.length cap:=by rw [hV2.l];exact HL.out
     have hfw:Fr w wc (U.fp kb):=((hf1.step hf14 (fun _=>False.elim)).mono (fun _=>False.elim)).step hfc (fun k hk=>.inl ((hV2.fp kb k).2 hk))
     have hfwV:Fr w wc (V.fp kb):=hfw.mono (fun k hk=>(hV2.fp kb k).1 hk)
     have hsz2:w.heap.size+4<=wc.heap.size:=Nat.le_trans hws4 hfc.size;have hVU:∀k,U.fp kb k->k<w.heap.size:=fun k hk=>hV k ((hV2.fp kb k).1 hk)
     have nofp:∀k,w.heap.size<=k->¬V.fp kb k:=fun k hk e=>by have:=hV k e;omega
     have hba2:=hfc.same (hf14.same hba id) (nofp _ (Nat.le_refl _));have hbh2:=hfc.same hbh4 (nofp _ (by omega));have hw2:∃ws2,ws2=ou ws (R.L[p].base+m2) (R.L[p].mark-m2):=⟨_,rfl⟩;obtain ⟨ws2,hws2⟩:=hw2;have hQ:∃Q:dq,Q={R with L:=R.L.set p {R.L[p] with mark:=m2}}:=⟨_,rfl⟩;obtain ⟨Q,hQ⟩:=hQ;have hS2:fy ⟨R,D,ws,que⟩ p R.L[p] m2=⟨Q,D,ws2,que⟩:=by rw [hQ,hws2];rfl
     have hQp:p<Q.L.length:=by rw [hQ];simpa using hp
     have hQe:Q.L[p]={R.L[p] with mark:=m2}:=by subst hQ;simp
     have hQl:Q.L.length=R.L.length:=by rw [hQ];simp
     rw [hS2] at hRB2;have HC:Hid (y=if Q.L[p].base+pw Q.L[p].bits.toNat<ji c Q.L[p]+c.count*pw c.bits.toNat then (6,⟨Q,D,ws2,que⟩)
      else (0,⟨jl {Q with L:=Q.L.set p {Q.L[p] with mark:=ji c Q.L[p]+c.count*pw c.bits.toNat-Q.L[p].base}} root p Q.L[p].up n ix c (ji c Q.L[p]) c.count.toNat,D,ws2,que⟩)):=by
      show _=_;rw [HC2.out,hS2,hQe];unfold y_ ad_;simp only;split<;>rfl
     have x7:wc.cell? ⟨g,p*9+7,none⟩=some (.int .i64 Q.L[p].mark):=by
      obtain ⟨g',cap',hlv',_,_,_,_,_,_,_,_,_,x7,_⟩:=fe hRB2.rd.ref p hQp;rw [hLU,<- hQl] at hlv';cases hlv'
      exact x7
     have HL':Hid (U.lv=.slice (some ⟨g,0,none⟩) Q.L.length cap):=by show _=_;rw [hLU,hQl]
     have hc4:=hRB2.rd.ref.cl;rw [HL'.out] at hc4;have hcap':Q.L.length<=cap:=by rw [hQl];exact hcap
     have hglt':g<wc.heap.size:=by omega
     have b1:wc.cell? ⟨w.heap.size+1,1,none⟩=some (.int .i64 Q.L[p].base):=by rw [hQe];exact aa (o:=1) hbh2 rfl
     have b2:wc.cell? ⟨w.heap.size+1,2,none⟩=some (.int .i64 Q.L[p].bits):=by rw [hQe];exact aa (o:=2) hbh2 rfl
     have k3:wc.cell? ⟨w.heap.size,3,none⟩=some (.int .i64 (t:Int)):=by rw [<- HY.out];exact aa hba2 rfl
     have k4:wc.cell? ⟨w.heap.size,4,none⟩=some (.int .i64 c.bits):=aa hba2 rfl;have k5:wc.cell? ⟨w.heap.size,5,none⟩=some (.int .i64 c.count):=aa hba2 rfl;have q_n:Q.L.length<=900000:=by rw [hQl];exact hn
     have q_m:Q.N.length<=900000:=by rw [hQ];exact hm
     have q_o:Q.T.length<=900000:=by rw [hQ];exact ho
     have q_N1:0<Q.N.length:=by rw [hQ];exact hN1
     have q_u0:0<=Q.L[p].up:=by rw [hQe];exact hu0
     have q_u1:Q.L[p].up<=900000:=by rw [hQe];exact hu1
     have q_m0:0<=Q.L[p].mark:=by rw [hQe];exact hm20
     have q_m1:Q.L[p].mark<=1024:=by rw [hQe];show m2<=1024;omega
     have q_s0:0<=Q.L[p].base:=by rw [hQe];exact hs0
     have q_s1:Q.L[p].base<=1024:=by rw [hQe];show R.L[p].base<=1024;omega
     have q_b1:Q.L[p].bits<=20:=by rw [hQe];exact hb1
     have hf4:Fr wc wc (fun _=>False):=Fr.refl _ _;clear HC2 hS2 hQ hQe hQl hws2 hba hbh hbh4 hb41 h3 k2 hf14 hsz1 e0 e1 e2 e3 e4 e5 e6 e7 e8 hcl hRB4 hws4 hLU HL hbh2 hfc HTB hn hm ho hN1 hu0 hu1 hm0 hm1 hs0 hs1 hb1 hV hcap HYG;have z1:=lq c.bits.toNat;have z2:pw c.bits.toNat<=1024:=Int.le_trans (xt (b:=10) (by omega)) (by decide);have y1:=lq Q.L[p].bits.toNat;have y2:=ag9 Q.L[p].bits.toNat (by omega);generalize hZ:pw c.bits.toNat=Z at *
     generalize hY:pw Q.L[p].bits.toNat=Y at *
     have m0:0<=c.count*Z:=Int.mul_nonneg (by omega) (by omega);have m1:c.count*Z<=8192:=by have m2:c.count*Z<=8*1024:=Int.mul_le_mul hc8 z2 (by omega) (by omega);omega
     have HZ:Hid (pw c.bits.toNat=Z):=hZ;have HYY:Hid (pw Q.L[p].bits.toNat=Y):=hY;clear hZ hY;go_wp2_with fail
     refine (jg c.bits _ (by omega)).mono ?_;rintro e W3 ⟨rfl,rfl⟩;rw [HZ.out];go_wp2;go_quiet (fail)
     revert nq
     intro q5;have hs2:Hid (nu (Q.L[p].base+Q.L[p].mark) Z=ji c Q.L[p]):=by show _=_;unfold ji;rw [HZ.out]
     go_wp2;go_loopw [20] (fun sv w'=>w'=W3.drewN q5/\∃s:Int,0<=s/\s<=ji c Q.L[p]/\sv=.int .i64 s/\nu s Z=ji c Q.L[p]) (fun sv _=>(ji c Q.L[p]-intOf sv).toNat)
     case atStart=>exact ⟨rfl,_,by omega,by rw [<- hs2.out];exact ai0 _ _ (by omega),rfl,hs2.out⟩
     case round=>
      obtain ⟨rfl,s,hs0',hs1',rfl,hup⟩:=hrel;have hsl:ji c Q.L[p]<=4096:=by rw [<- hs2.out];have:=bh5 (Q.L[p].base+Q.L[p].mark) Z (by omega);omega
      by_cases hre2:s % Z=0
      ·have hre3:(s % Z != 0)=false:=by simpa using hre2
       have hse:s=ji c Q.L[p]:=by rw [<- hup,br2 _ _ hre2]
       clear hup hre2;rw [<- hse] at HC;rw [<- hse] at hs2 hsl;have HS:Hid (s=ji c Q.L[p]):=hse;clear hse hs1';have y3:pw Q.L[p].bits.toNat<=1048576:=by rw [HYY.out];exact y2
       have y4:1<=pw Q.L[p].bits.toNat:=by rw [HYY.out];exact y1
       by_cases q8:Q.L[p].base+Y<s+c.count*Z
       ·rw [if_pos q8] at HC;have d8:decide (Q.L[p].base+pw Q.L[p].bits.toNat<s+c.count*Z)=true:=by rw [HYY.out];simpa using q8
        go_wp2;go_quiet ((go_at_call 106;exact jp (jg Q.L[p].bits _ (by omega))))
        go_wp2;go_ret;rw [HC.out];exact bx0 hRB2.rd (fun k hk=>(hV2.fq kb k).1 hk) hfwV ((hf4.drewN _).drewN _)
       rw [if_neg q8] at HC;have d8:decide (Q.L[p].base+pw Q.L[p].bits.toNat<s+c.count*Z)=false:=by rw [HYY.out];simpa using q8
       go_wp2;go_quiet ((go_at_call 106;exact jp (jg Q.L[p].bits _ (by omega))))
       clear d8;go_wp2;have hf5:Fr W3 ((W3.drewN q5).drewN nq) (fun _=>False):=(hf4.drewN _).drewN _;have h5:aj ((W3.drewN q5).drewN nq) kb Q U:=hRB2.rd.ref.frame hf5 (fun _ _=>id);have hc5:=h5.cl;rw [HL'.out] at hc5;have k3:((W3.drewN q5).drewN nq).cell? ⟨w.heap.size,3,none⟩=some (.int .i64 (t:Int)):=k3;have k4:((W3.drewN q5).drewN nq).cell? ⟨w.heap.size,4,none⟩=some (.int .i64 c.bits):=k4;have k5:((W3.drewN q5).drewN nq).cell? ⟨w.heap.size,5,none⟩=some (.int .i64 c.count):=k5;have b1:((W3.drewN q5).drewN nq).cell? ⟨w.heap.size+1,1,none⟩=some (.int .i64 Q.L[p].base):=b1;have x7:((W3.drewN q5).drewN nq).cell? ⟨g,p*9+7,none⟩=some (.int .i64 Q.L[p].mark):=x7;have hba5:((W3.drewN q5).drewN nq).heap[w.heap.size]?=some (.cells #[.int .i64 c.kind,av,tv,.int .i64 c.ty,.int .i64 c.bits,.int .i64 c.count,.int .i64 c.rights,.int .i64 c.badge,.int .i64 c.value,.int .i64 c.offset] 41 (0,0)):=hba2;have hsz5:w.heap.size+4<=((W3.drewN q5).drewN nq).heap.size:=hsz2;generalize (W3.drewN q5).drewN nq=W5 at *
       have z7:W5.frozen? ⟨g,p*9+7,none⟩=false:=by
        have:=h5.l;rw [HL'.out] at this;rcases this.2 with ⟨h0,_⟩ | ⟨g',cap',cur,hv,hb,hg,_⟩
        ·cases h0
        ·cases hv;exact ab hg
       have hgk:¬g=kb:=fun e=>hRB2.rd.ref.kl (by rw [HL'.out,e];rfl)
       have ngw:¬g=w.heap.size:=by omega
       have ngw1:¬g=w.heap.size+1:=by omega
       go_region_held (fun w'=>w'.cell? ⟨kb,0,none⟩=some (Value.slice (some ⟨g,0,none⟩) Q.L.length cap)/\w'.cell? ⟨w.heap.size,5,none⟩=some (.int .i64 c.count)/\w'.cell? ⟨w.heap.size+1,1,none⟩=some (.int .i64 Q.L[p].base)) (go_keep) (fail)
       rw [IntWalk.i64_in (c.count*Z) (by omega),IntWalk.i64_in (s+c.count*Z) (by omega),IntWalk.i64_in (s+c.count*Z-Q.L[p].base) (by omega)];rw [show p*9+2+5=p*9+7 by omega];have h6:aj (W5.setCell ⟨g,p*9+7,none⟩ (.int .i64 (s+c.count*Z-Q.L[p].base))).drew kb {Q with L:=Q.L.set p {Q.L[p] with mark:=s+c.count*Z-Q.L[p].base}} U:=
        (h5.setMark hQp HL'.out _).frame (Fr.refl _ _).drew (fun _ _=>id)
       have hf6:Fr w (W5.setCell ⟨g,p*9+7,none⟩ (.int .i64 (s+c.count*Z-Q.L[p].base))).drew (U.fp kb):=
        ((hfw.step hf5 (fun _=>False.elim)).setCell (.inl (.inr (.inl (by rw [HL'.out];rfl)))) _ _).drew
       have hba6:(W5.setCell ⟨g,p*9+7,none⟩ (.int .i64 (s+c.count*Z-Q.L[p].base))).drew.heap[w.heap.size]?=some (.cells #[.int .i64 c.kind,av,tv,.int .i64 c.ty,.int .i64 c.bits,.int .i64 c.count,.int .i64 c.rights,.int .i64 c.badge,.int .i64 c.value,.int .i64 c.offset] 41 (0,0)):=by
        show (W5.setCell ⟨g,p*9+7,none⟩ (.int .i64 (s+c.count*Z-Q.L[p].base))).heap[w.heap.size]?=_;rw [ft _ _ _ _ _ (by omega)];exact hba5
       have hsz6:w.heap.size+4<=(W5.setCell ⟨g,p*9+7,none⟩ (.int .i64 (s+c.count*Z-Q.L[p].base))).drew.heap.size:=by
        show _<=(W5.setCell ⟨g,p*9+7,none⟩ (.int .i64 (s+c.count*Z-Q.L[p].base))).heap.size;rw [bu];omega
       generalize (W5.setCell ⟨g,p*9+7,none⟩ (.int .i64 (s+c.count*Z-Q.L[p].base))).drew=W6 at *
       have HR:Hid (∃R1:dq,R1={Q with L:=Q.L.set p {Q.L[p] with mark:=s+c.count*Z-Q.L[p].base}}):=⟨_,rfl⟩;obtain ⟨R1,hR1⟩:=HR.out;rw [<- hR1] at h6 HC;have hp1:p<R1.L.length:=by rw [hR1];simpa using hQp
       have hu1':R1.L[p].up=Q.L[p].up:=by subst hR1;simp
       have HU:Hid (R1.L[p].up=Q.L[p].up):=hu1';have hn1:R1.L.length<=900000:=by rw [hR1];simpa using q_n
       have hm1':R1.N.length<=900000:=by rw [hR1];exact q_m
       have ho1:R1.T.length<=900000:=by rw [hR1];exact q_o
       have hN1':0<R1.N.length:=by rw [hR1];exact q_N1
       clear HR hR1 hu1' h5 hf5 hc5 k3 k4 k5 b1 x7 hba5 hsz5 z7;go_wp2;go_loopw [21] (fun iv w'=>b55 w kb R1 U root p Q.L[p].up n ix c s k (.cells #[.int .i64 c.kind,av,tv,.int .i64 c.ty,.int .i64 c.bits,.int .i64 c.count,.int .i64 c.rights,.int .i64 c.badge,.int .i64 c.value,.int .i64 c.offset] 41 (0,0)) iv w') (fun iv _=>k-(intOf iv).toNat)
       case atStart=>exact ⟨0,U.lv,U.nv,U.tv,Nat.zero_le _,rfl,h6,hf6,hsz6,fun r hr=>.inl hr,hba6⟩
       case round=>
        obtain ⟨i,lv,nv,tv',hik,rfl,hi,hfi,hszi,hpi,hbi⟩:=hrel;have k3:wr.cell? ⟨w.heap.size,3,none⟩=some (.int .i64 (t:Int)):=by rw [<- HY.out];exact aa hbi rfl
        have k4:wr.cell? ⟨w.heap.size,4,none⟩=some (.int .i64 c.bits):=aa hbi rfl;have k5:wr.cell? ⟨w.heap.size,5,none⟩=some (.int .i64 c.count):=aa hbi rfl;have hkk:=HK.out;by_cases hlt:(i:Int)<c.count
        ·have i0:0<=(i:Int)*Z:=Int.mul_nonneg (by omega) (by omega);have i1:(i:Int)*Z<=8192:=by have m2:(i:Int)*Z<=8*1024:=Int.mul_le_mul (by omega) z2 (by omega) (by omega);omega
         obtain ⟨hLl,hLp⟩:=bp2 R1 root p Q.L[p].up n ix c s hp1 i;obtain ⟨hNg,hTg⟩:=bh1 R1 root p Q.L[p].up n ix c s i;obtain ⟨hNl,hTl⟩:=bz4 R1 root p Q.L[p].up n ix c s i;have hpi1:p<(jl R1 root p Q.L[p].up n ix c s i).L.length:=by omega
         have hupi:(jl R1 root p Q.L[p].up n ix c s i).L[p].up=Q.L[p].up:=by
          rw [List.getElem?_eq_getElem hpi1] at hLp;rw [Option.some.inj hLp];exact HU.out
         have HUI:Hid ((jl R1 root p Q.L[p].up n ix c s i).L[p].up=Q.L[p].up):=hupi;have hik3:i+1<=k:=by omega
         have hme:k-((i:Int)+1).toNat<k-(i:Int).toNat:=by omega
         have hup0:0<=(jl R1 root p Q.L[p].up n ix c s i).L[p].up:=by rw [hupi];exact q_u0
         have hup1:(jl R1 root p Q.L[p].up n ix c s i).L[p].up<=1000000:=by rw [hupi];omega
         have hLb:(jl R1 root p Q.L[p].up n ix c s i).L.length<=1000000:=by omega
         clear hupi hLp;have HRS:Hid (jl R1 root p Q.L[p].up n ix c s (i+1)={L:=ns (jl R1 root p Q.L[p].up n ix c s i).L p Q.L[p].up ⟨n,ix+i,c.ty,s+i*Z,c.bits,7,0,0,0⟩,N:=if c.ty=2 then (jl R1 root p Q.L[p].up n ix c s i).N++[⟨s+i*Z,c.bits⟩] else (jl R1 root p Q.L[p].up n ix c s i).N,T:=if c.ty=4 then (jl R1 root p Q.L[p].up n ix c s i).T++[⟨s+i*Z,1,root,0,0,0⟩] else (jl R1 root p Q.L[p].up n ix c s i).T}):=by
          show _=_;simp only [jl,HZ.out]
         generalize hRi:jl R1 root p Q.L[p].up n ix c s i=Ri at *
         clear hRi hkk;go_wp2_with fail
         go_must (refine (au2 Ri {U with lv:=lv,nv:=nv,tv:=tv'} kb p ⟨n,ix+i,(t:Int),s+(i:Int)*Z,c.bits,7,0,0,0⟩ _ hi hLb hpi1 hup1 hup0).mono ?_)
         rintro e7 W7 ⟨rfl,lv7,h7,hf7,hlt7⟩;obtain ⟨hb7,hfw7,hsz7,hp7⟩:=b77 hVU hbi hfi hszi hpi hf7 hlt7;have k3:W7.cell? ⟨w.heap.size,3,none⟩=some (.int .i64 (t:Int)):=by rw [<- HY.out];exact aa hb7 rfl
         have k4:W7.cell? ⟨w.heap.size,4,none⟩=some (.int .i64 c.bits):=aa hb7 rfl;rw [HUI.out] at h7;clear hf7 hlt7 hpi hbi hi hfi hszi;by_cases t2:t=2
         ·have T2:Hid (t=2):=t2;have t2':((t:Int)==2)=true:=by simp;omega
          clear t2;obtain ⟨iT,hiT,hT0,hT2,hT3⟩:=info_parts bg4;have hTT:W7.ownsRow 0 110 2 nv Ri.N.length (ap6 Ri.N):=h7.n;obtain ⟨gt,capt,rfl,hct1,hct2,hgt⟩:=ep hTT (by omega);have hc7:W7.cell? ⟨kb,1025,none⟩=some (.slice (some ⟨gt,0,none⟩) Ri.N.length capt):=h7.cn;have hz7:W7.frozen? ⟨kb,1025,none⟩=false:=h7.fz _;have hk7:kb<W7.heap.size:=World.block_lt_of_cell? _ _ hc7;go_wp2;have hne1:¬kb=w.heap.size:=by omega
          have hne2:¬w.heap.size=kb:=by omega
          go_region_law
           ((refine step_append_lies _ rfl _ _ 102 rfl 0 110 iT _ 2 16 Tryz.underlying102 hiT hT0 hT2 hT3 rfl (by decide) _ _ _ rfl (World.ownsRow.alloc hTT _) ⟨_,0,none⟩ 1 1 [.int .i64 (s+(i:Int)*Z),.int .i64 c.bits] rfl rfl (dg _ _ _) (pp.one ⟨s+(i:Int)*Z,c.bits⟩) (by decide) (by unfold maxLen;omega) (by omega) (Nat.zero_le _) (W7.heap.size+1) (by simp) ?_;intro g8 cap8 W8 hown8 hg8 hat8 hlt8;obtain ⟨hc8,hz8,h8,hfw8,hsz8,hp8,hb9,hb8⟩:=b79 (x:=⟨s+(i:Int)*Z,c.bits⟩) (o:=.cells #[.int .i64 (s+(i:Int)*Z),.int .i64 c.bits] 110) hVU hklt h7 hfw7 hsz7 hp7 hb7 ⟨hg8.os,hg8.tape,hg8.output,hg8.size,hg8.block⟩ hown8 hat8;have hk48:W8.cell? ⟨w.heap.size,4,none⟩=some (.int .i64 c.bits):=aa hb8 rfl))
          all_goals
           go_wp2;go_roundw;case rel=>
            refine ⟨i+1,lv7,_,tv',hik3,by go_num,?_,hfw8,hsz8,hp8,hb9⟩;rw [HRS.out,if_pos (by rw [HY.out,T2.out];rfl),if_neg (by rw [HY.out,T2.out];decide),HY.out];exact h8
           case measure=>simp only [intOf];exact hme
         by_cases t4:t=4
         ·have T4:Hid (t=4):=t4;have t2':((t:Int)==2)=false:=by simp;omega
          have t4':((t:Int)==4)=true:=by simp;omega
          clear t2 t4;obtain ⟨iT,hiT,hT0,hT2,hT3⟩:=info_parts bh8;have hTT:W7.ownsRow 0 112 6 tv' Ri.T.length (xz Ri.T):=h7.t;obtain ⟨gt,capt,rfl⟩:=im hTT;have hc7:W7.cell? ⟨kb,1026,none⟩=some (.slice gt Ri.T.length capt):=h7.ct;have hz7:W7.frozen? ⟨kb,1026,none⟩=false:=h7.fz _;have hk7:kb<W7.heap.size:=World.block_lt_of_cell? _ _ hc7;go_wp2_with (at_builtin;go_must (refine wpList_append_lies _ rfl _ _ 103 rfl 0 112 iT _ 6 48 Tryz.underlying103 hiT hT0 hT2 hT3 rfl (by decide) _ _ _ rfl (World.ownsRow.alloc hTT _) ⟨_,0,none⟩ 1 1 [.int .i64 (s+(i:Int)*Z),.int .i64 1,.int .i64 root,.int .i64 0,.int .i64 0,.int .i64 0] rfl rfl (dg _ _ _) (ej.one ⟨s+(i:Int)*Z,1,root,0,0,0⟩) (by decide) ?_ ?_ (Nat.zero_le _) (W7.heap.size+1) ?_ ?_))
          ·unfold maxLen;omega
          ·omega
          ·simp
          intro g8 cap8 W8 hown8 hg8 hat8 hlt8;obtain ⟨hc8,hz8,h8,hfw8,hsz8,hp8,hb9⟩:=b76 (x:=⟨s+(i:Int)*Z,1,root,0,0,0⟩) hVU hklt h7 hfw7 hsz7 hp7 hb7 hg8 hown8 hat8;clear hown8 hg8 hat8 hlt8 h7 hfw7 hsz7 hp7 hb7 hTT hc7 hz7;go_wp2;go_roundw;case rel=>
           refine ⟨i+1,lv7,nv,_,hik3,by go_num,?_,hfw8,hsz8,hp8,hb9⟩;rw [HRS.out,if_neg (by rw [HY.out,T4.out];decide),if_pos (by rw [HY.out,T4.out];rfl),HY.out];exact h8
          case measure=>simp only [intOf];exact hme
         ·have n2:¬(t:Int)=2:=by omega
          have n4:¬(t:Int)=4:=by omega
          have t2':((t:Int)==2)=false:=by simpa using n2
          have t4':((t:Int)==4)=false:=by simpa using n4
          go_wp2;go_roundw;case rel=>
           refine ⟨i+1,lv7,nv,tv',hik3,by go_num,?_,hfw7,hsz7,hp7,hb7⟩;rw [HRS.out,if_neg (by rw [HY.out];exact n2),if_neg (by rw [HY.out];exact n4),HY.out];exact h7
          case measure=>simp only [intOf];exact hme
        ·have hik2:i=k:=by omega
         subst hik2;clear hkk;go_wp2;go_ret;rw [HC.out,HK.out];refine ⟨rfl,{U with lv:=lv,nv:=nv,tv:=tv'},⟨hi,hRB2.rd.ws,?_,?_,?_,?_⟩,hfi.mono (fun r hr=>.inl ((hV2.fp kb r).1 hr)),?_⟩
         ·show World.ownsRow _ 0 116 2 U.dv D.length (D.flatMap sg);rw [hV2.d];exact hfi.owns HB.rd.d (fun r hr e=>HB.rd.dk r hr ((hV2.fp kb r).1 e))
         ·intro r hr hfp;have hr':V.dv.ownBlock=some r:=by rw [<- hV2.d];exact hr
          have hlt':=HB.rd.fqLt (k:=r) (.inr (.inl hr'));rcases hpi r hfp with h7 | h7
          ·exact HB.rd.dk r hr' ((hV2.fp kb r).1 h7)
          ·omega
         ·show World.ownsRow _ 0 191 5 U.qv que.length (que.flatMap sj);rw [hV2.q];exact hfi.owns HB.rd.q (fun r hr e=>(HB.rd.qk r hr).1 ((hV2.fp kb r).1 e))
         ·intro r hr;have hr':V.qv.ownBlock=some r:=by rw [<- hV2.q];exact hr
          have hlt':=HB.rd.fqLt (k:=r) (.inr (.inr hr'));refine ⟨fun hfp=>?_,fun e=>(HB.rd.qk r hr').2 (by rw [<- hV2.d];exact e)⟩
          rcases hpi r hfp with h7 | h7
          ·exact (HB.rd.qk r hr').1 ((hV2.fp kb r).1 h7)
          ·omega
         ·rintro r (hr | hr | hr)
          ·rcases hpi r hr with h7 | h7
           ·exact .inl (.inl ((hV2.fp kb r).1 h7))
           ·exact .inr (by omega)
          ·exact .inl (.inr (.inl (by rw [<- hV2.d];exact hr)))
          ·exact .inl (.inr (.inr (by rw [<- hV2.q];exact hr)))
      ·have hre3:(s % Z != 0)=true:=by simpa using hre2
       have hlt4:s+1<=ji c Q.L[p]:=by
        rw [<- hup,<- as4 s Z (by omega) hre2];exact ai0 _ _ (by omega)
       have hup2:nu (s+1) Z=ji c Q.L[p]:=by rw [as4 s Z (by omega) hre2];exact hup
       clear hup hre2;go_wp2;go_roundw;case rel=>exact ⟨trivial,s+1,by omega,hlt4,rfl,hup2⟩
       case measure=>simp [intOf];omega
end Go.Proofs.YtdpjgflemddekaaGreatDoor
