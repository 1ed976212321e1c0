/- The document's answer: a node that nobody has any more. -/
import Derived.Test.YtdpjgflemddekaaGreatDoorMTRa
import Derived.Deep.RegionLaw
import Derived.Deep.DeepCutAuto
import Derived.Deep.CutBlock
set_option maxRecDepth 100000
set_option maxHeartbeats 4000000
namespace Go.Proofs.YtdpjgflemddekaaGreatDoor
open Go.RowKit
def ax.fo (kb:Nat)(V:ax)(k:Nat):Prop:=V.fp kb k\/V.dv.ownBlock=some k
theorem im {w:World}{b t s n:Nat}{v:Value}{xs:List Value}(h:w.ownsRow b t s v n xs):∃A cap,v=.slice A n cap:=by
 rcases h.2 with ⟨rfl,rfl⟩ | ⟨g,cap,cur,rfl,_⟩
 ·exact ⟨_,_,rfl⟩
 ·exact ⟨_,_,rfl⟩
theorem nz {w:World}{b t s n g:Nat}{v:Value}{xs:List Value}(h:w.ownsRow b t s v n xs)(hk:v.ownBlock=some g):∃c:Array Value,True/\w.heap[g]?=some (.cells c t (0,0)):=by
 rcases h.2 with ⟨rfl,_⟩ | ⟨g',cap,cur,rfl,_,hg,_⟩
 ·cases hk
 ·cases hk;exact ⟨cur,trivial,hg⟩
theorem aj.setRoot {w:World}{kb:Nat}{R:dq}{V:ax}(h:aj w kb R V){g cap p:Nat}(hp:p<R.T.length)(hlv:V.tv=.slice (some ⟨g,0,none⟩) R.T.length cap)(m:Int):
 aj (w.setCell ⟨g,p*6+2,none⟩ (.int .i64 m)) kb {R with T:=R.T.set p {R.T[p] with root:=m}} V:=by
 have hl:=h.t;rw [hlv] at hl;have h2:=eh hl (p*6+2) (.int .i64 m);have hf:Fr w (w.setCell ⟨g,p*6+2,none⟩ (.int .i64 m)) (fun k=>k=g):=Fr.s1 _ _ _ _;have hgl:V.tv.ownBlock=some g:=by rw [hlv];rfl
 obtain ⟨cc,hc,hcc⟩:=h.blk;refine ⟨⟨cc,hf.same hc (fun e=>h.kt (by rw [hgl,e])),hcc⟩,hf.owns h.l (fun k hk e=>h.lt k hk (by rw [e];exact hgl)),hf.owns h.n (fun k hk e=>h.nt k hk (by rw [e];exact hgl)),?_,h.kl,h.kn,h.kt,h.ln,h.lt,h.nt⟩
 show World.ownsRow _ 0 112 6 V.tv (R.T.set p {R.T[p] with root:=m}).length (xz (R.T.set p {R.T[p] with root:=m}));rw [hlv,List.length_set];have e1:(xz R.T).set (p*6+2) (.int .i64 m)=xz (R.T.set p {R.T[p] with root:=m}):=
  lg ej.vals 6 ej.vals_len (.int .i64 m) {R.T[p] with root:=m} R.T p 2 hp (by omega) rfl
 rw [e1] at h2;exact h2
theorem bk_ {n:Int}(h1:2<=n)(h2:n<=20):IntKind.i64.wrap (n-2)=n-2:=by
 have:∀k:Nat,k<=18->IntKind.i64.wrap (k:Int)=k:=by decide
 have h3:=this (n-2).toNat (by omega);rwa [show (((n-2).toNat:Nat):Int)=n-2 by omega] at h3
def fu (b:Int)(T:List ej)(k:Nat):List ej:=(T.take k).map (fl b)++T.drop k
theorem kz (b:Int)(T:List ej)(k:Nat):(fu b T k).length=T.length:=by simp [fu];omega
theorem a66 (b:Int)(T:List ej):fu b T T.length=T.map (fl b):=by simp [fu]
theorem rf (b:Int)(T:List ej)(k j:Nat)(hk:k<=T.length):(fu b T k)[j]?=if j<k then (T[j]?).map (fl b) else T[j]?:=by
 unfold fu;by_cases h:j<k
 ·rw [if_pos h,List.getElem?_append_left (by simp;omega),List.getElem?_map,List.getElem?_take,if_pos h]
 ·rw [if_neg h,List.getElem?_append_right (by simp;omega),List.getElem?_drop];congr 1;simp;omega
theorem af_ (b:Int)(T:List ej)(k:Nat)(hk:k<T.length):(fu b T k)[k]'(by rw [kz];exact hk)=T[k]:=by
 have:=rf b T k k (by omega);rw [if_neg (by omega),List.getElem?_eq_getElem hk,List.getElem?_eq_getElem (by rw [kz];exact hk)] at this;exact Option.some.inj this
theorem aw5 (b:Int)(T:List ej)(k:Nat)(hk:k<T.length):fu b T (k+1)=(fu b T k).set k (fl b T[k]):=by
 apply List.ext_getElem?;intro j;rw [rf b T (k+1) j (by omega),List.getElem?_set];by_cases hj:k=j
 ·subst hj;rw [if_pos (by omega),if_pos rfl,if_pos (by rw [kz];exact hk),List.getElem?_eq_getElem hk];rfl
 ·rw [if_neg hj,rf b T k j (by omega)];by_cases h:j<k
  ·rw [if_pos h,if_pos (by omega)]
  ·rw [if_neg h,if_neg (by omega)]
theorem at7 (b:Int)(T:List ej)(k:Nat)(hk:k<T.length)(hn:fl b T[k]=T[k]):fu b T (k+1)=fu b T k:=by
 apply List.ext_getElem?;intro j;rw [rf b T (k+1) j (by omega),rf b T k j (by omega)];by_cases hj:k=j
 ·subst hj;rw [if_pos (by omega),if_neg (by omega),List.getElem?_eq_getElem hk,Option.map_some,hn]
 ·by_cases h:j<k
  ·rw [if_pos h,if_pos (by omega)]
  ·rw [if_neg h,if_neg (by omega)]
theorem bj6 (S:RS)(V:ax)(kb:Nat)(b bits r g m:Int)(w:World)(h:RD w kb S V)(hnN:S.R.N.length<=900000)(hnT:S.R.T.length<=900000)(hnD:S.D.length<=900000)(hbits:2<=bits/\bits<=20):
 Calls Tryz.prog 115 #[.pointer (some ⟨kb,0,none⟩),r8 2 b bits r g m] w fun e' w'=>e'=.returned (.tuple #[])/\∃nv dv,fh w kb V (jd S 2 b bits) {V with nv:=nv,dv:=dv} w':=by
 obtain ⟨i0,hi0,hz0,hz1,hz2⟩:=info_parts bq6;obtain ⟨iD,hiD,hD0,hD1,hD2⟩:=info_parts b35;have hklt:kb<w.heap.size:=World.block_lt_of_cell? w _ h.ref.cn;unfold r8;have hbox:(w.alloc (Obj.cells #[.int .i64 2,.int .i64 b,.int .i64 bits,.int .i64 r,.int .i64 g,.int .i64 m] 46)).heap[w.heap.size]?=some (Obj.cells #[.int .i64 2,.int .i64 b,.int .i64 bits,.int .i64 r,.int .i64 g,.int .i64 m] 46):=heap_alloc_new _ _;have hfa:Fr w (w.alloc (Obj.cells #[.int .i64 2,.int .i64 b,.int .i64 bits,.int .i64 r,.int .i64 g,.int .i64 m] 46)) (fun _=>False):=(Fr.refl _ _).alloc _;have hs1:w.heap.size+1<=(w.alloc (Obj.cells #[.int .i64 2,.int .i64 b,.int .i64 bits,.int .i64 r,.int .i64 g,.int .i64 m] 46)).heap.size:=by simp
 go_enter Tryz.func115,Tryz.ntmps115
 go_wp2;generalize (w.alloc (Obj.cells #[.int .i64 2,.int .i64 b,.int .i64 bits,.int .i64 r,.int .i64 g,.int .i64 m] 46))=w1 at hbox hfa hs1 ⊢;have h1:RD w1 kb S V:=h.frame hfa (fun _ _=>id);obtain ⟨A,cap,hnv,hA⟩:=h1.ref.lnn;have hcn:=h1.ref.cn;rw [hnv] at hcn;go_loopw [4,5] (fun l i w'=>∃k n:Nat,i=.int .i64 k/\k<=S.R.N.length/\n=((S.R.N.take k).filter (fun t=>!au b t)).length/\w'.ownsRow w1.heap.size 110 2 l n (((S.R.N.take k).filter (fun t=>!au b t)).flatMap pp.vals)/\Fr w1 w' (fun _=>False)) (fun _ i _=>S.R.N.length-(intOf i).toNat)
 case atStart=>exact ⟨0,0,rfl,by omega,rfl,World.ownsRow_nil _ _ _ _,Fr.refl _ _⟩
 case round=>
  obtain ⟨k,n,rfl,hk,hnn,hown,hfr⟩:=hrel;have hr:=h1.frame hfr (fun _ _=>id);have hctr:wr.cell? ⟨kb,1025,none⟩=some (.slice A S.R.N.length cap):=hfr.cell hcn id;have hbr:=hfr.same hbox id;have hc1:=aa (o:=1) hbr rfl;have hnl:=zj (fun t=>!au b t) S.R.N k;have hkr:kb<wr.heap.size:=World.block_lt_of_cell? _ _ hctr;by_cases hlt:k<S.R.N.length
  ·obtain ⟨ga,rfl,hcells⟩:=hA (by omega);obtain ⟨q0,q1⟩:=bv7 hcells k hlt;have q0:=hfr.cell q0 id;have q1:=hfr.cell q1 id;have hgr:ga<wr.heap.size:=World.block_lt_of_cell? _ _ q0;have hft:=wz (fun t=>!au b t) S.R.N k hlt;by_cases hb:S.R.N[k].base=b
   ·have hb':(S.R.N[k].base != b)=false:=by simpa using hb
    have HF:Hid ((S.R.N.take (k+1)).filter (fun t=>!au b t)=(S.R.N.take k).filter (fun t=>!au b t)):=by
     show _=_;rw [hft,if_neg (by simp [au,hb]),List.append_nil]
    clear hft hb;go_wp2;go_quiet (fail)
    go_wp2;go_roundw;case rel=>exact ⟨k+1,n,by go_num,by omega,by rw [HF.out];exact hnn,by rw [HF.out];exact hown,hfr.drewN _⟩
    case measure=>simp [intOf];omega
   ·have hb':(S.R.N[k].base != b)=true:=by simpa using hb
    have HF:Hid ((S.R.N.take (k+1)).filter (fun t=>!au b t)=(S.R.N.take k).filter (fun t=>!au b t)++[S.R.N[k]]):=by
     show _=_;rw [hft,if_pos (by simp [au,hb])]
    clear hft hb;go_wp2;go_quiet (fail)
    have hownX:(wr.drewN nq).ownsRow w1.heap.size 110 2 u4 n (((S.R.N.take k).filter (fun t=>!au b t)).flatMap pp.vals):=hown;have hfX:Fr w1 (wr.drewN nq) (fun _=>False):=hfr.drewN nq;have hsz:=hfX.size;go_wp2_with (at_builtin;go_must (refine wpList_append_own _ rfl _ _ 102 rfl w1.heap.size 110 i0 _ 2 16 Tryz.underlying102 hi0 hz0 hz1 hz2 rfl (by decide) _ n _ rfl (World.ownsRow.alloc hownX _) ⟨_,0,none⟩ 1 1 S.R.N[k].vals rfl rfl (xf _ _ _ _ (by simp)) (pp.one S.R.N[k]) ?_ ?_ ?_ ?_))
    ·unfold maxLen;omega
    ·omega
    ·exact Nat.le_trans hsz (by simp)
    intro v5 W5 hown5 hg5 hnil5;have hlt5:=World.ownsRow.lt hownX;have hf5:Fr w1 W5 (fun _=>False):=(hfX.alloc _).grown hg5 (fun r hr=>.inr (hlt5 r hr).1)
    clear hg5 hnil5;go_wp2;go_roundw;case rel=>exact ⟨k+1,n+1,by go_num,by omega,by rw [HF.out];simp [hnn],by rw [HF.out,List.flatMap_append,hnn];simpa using hown5,hf5⟩
    case measure=>simp [intOf];omega
  ·have hzt:=hr.ref.fz 1025;obtain rfl:k=S.R.N.length:=by omega
   rw [List.take_length] at hnn hown;subst hnn;have hlt9:=World.ownsRow.lt hown;have hnew:∀k,u4.ownBlock=some k->w.heap.size<=k:=fun k hk=>by have:=(hlt9 k hk).1;omega
   have h9:aj (wr.setCell ⟨kb,1025,none⟩ u4) kb {S.R with N:=S.R.N.filter (fun t=>!au b t)} {V with nv:=u4}:=by
    refine hr.ref.setN rfl (jn hown (Nat.zero_le _)) (fun k hk=>?_);have hk1:=hnew k hk;refine ⟨fun hk2=>?_,fun hk2=>?_,fun hk2=>by omega⟩
    ·have:=h.ref.fpLt (k:=k) (.inr (.inl hk2));omega
    ·have:=h.ref.fpLt (k:=k) (.inr (.inr (.inr hk2)));omega
   have hf8:Fr w wr (V.fo kb):=(hfa.mono (fun _=>False.elim)).step hfr (fun _=>False.elim);have hf9:Fr w (wr.setCell ⟨kb,1025,none⟩ u4) (V.fo kb):=hf8.setCell (.inl (.inl (.inl rfl))) _ _;have hb9:(wr.setCell ⟨kb,1025,none⟩ u4).heap[w.heap.size]?=_:=(Fr.s1 wr kb 1025 u4).same hbr (by omega);have hd9:(wr.setCell ⟨kb,1025,none⟩ u4).ownsRow 0 116 2 V.dv S.D.length (S.D.flatMap sg):=(Fr.s1 wr kb 1025 u4).owns hr.d (fun k hk e=>h.dk k hk (.inl e))
   obtain ⟨A9,cap9,rfl⟩:=im hown;have hkw:kb≠w.heap.size:=by omega
   have hcd:=h9.cd;have hzd:=h9.fz 1028;obtain ⟨AD,capD,hdv⟩:=im hd9;have hdv':V.dv=.slice AD S.D.length capD:=hdv;rw [hdv] at hcd;have hc1':=aa (o:=1) hb9 rfl;have hc2':=aa (o:=2) hb9 rfl;have hk9:kb<(wr.setCell ⟨kb,1025,none⟩ (.slice A9 (S.R.N.filter (fun t=>!au b t)).length cap9)).heap.size:=World.block_lt_of_cell? _ _ hcd;clear hown hlt9 hA hcn hnv hr hbr hc1;go_wp2;generalize (wr.setCell ⟨kb,1025,none⟩ (.slice A9 (S.R.N.filter (fun t=>!au b t)).length cap9))=W2 at *
   have HW:Hid (IntKind.i64.wrap (bits-2)=bits-2):=bk_ hbits.1 hbits.2;have hdk9:∀k,V.dv.ownBlock=some k->¬({V with nv:=Value.slice A9 (S.R.N.filter (fun t=>!au b t)).length cap9}:ax).fp kb k:=by
    rintro k hk (h5 | h5 | h5 | h5)
    ·exact h.dk k hk (.inl h5)
    ·exact h.dk k hk (.inr (.inl h5))
    ·have:=hnew k h5;have:=h.fqLt (k:=k) (.inr (.inl hk));omega
    ·exact h.dk k hk (.inr (.inr (.inr h5)))
   have hs2:w.heap.size<W2.heap.size:=(Array.getElem?_eq_some_iff.1 hb9).1;rw [hdv'] at hd9 hdk9;clear hfa hbox h1 hfr hctr hkr hzt hk hnl hlt hf8 hs1;go_cut [64] (fun _ wx=>∃g8 cap8 W8,wx=W8.setCell ⟨kb,1028,none⟩ (.slice (some ⟨g8,0,none⟩) (S.D.length+1) cap8)/\W8.ownsRow 0 116 2 (.slice (some ⟨g8,0,none⟩) (S.D.length+1) cap8) (S.D.length+1) (S.D.flatMap sg++[.int .i64 b,.int .i64 (pw (bits-2).toNat)])/\
    ((Value.slice AD S.D.length capD).ownBlock=some g8\/g8=W2.heap.size+1)/\Fr W2 W8 (fun r=>(Value.slice AD S.D.length capD).ownBlock=some r))
   case first=>
    go_region_law
     (first
     |(go_simp;rw [HW.out];go_at_call 106;refine (jg _ _ (by omega)).mono ?_;rintro e w' ⟨rfl,rfl⟩)
     |((refine step_append_lies _ rfl _ _ 67 rfl 0 116 iD _ 2 16 Tryz.underlying67 hiD hD0 hD1 hD2 rfl (by decide) (.slice AD S.D.length capD) _ _ rfl (World.ownsRow.alloc hd9 _) ⟨_,0,none⟩ 1 1 [.int .i64 b,.int .i64 (pw (bits-2).toNat)] rfl rfl (dg _ _ _) (bu5 (b,pw (bits-2).toNat)) (by decide) (by unfold maxLen;omega) (by omega) (Nat.zero_le _) (W2.heap.size+1) (by simp) ?_);intro g8 cap8 W8 hown8 hg8 hat8 hlt8
       have hf28:Fr W2 W8 (fun r=>(Value.slice AD S.D.length capD).ownBlock=some r):=(((Fr.refl W2 (fun r=>(Value.slice AD S.D.length capD).ownBlock=some r)).drew).alloc (.cells #[.int .i64 b,.int .i64 (pw (bits-2).toNat)] 116)).grown hg8 (fun r hr=>.inl hr)
       have h98:=h9.frame hf28 (fun k hk e=>hdk9 k e hk);have hc8:W8.cell? ⟨kb,1028,none⟩=some (.slice AD S.D.length capD):=by rw [<- hdv'];exact h98.cd
       have hz8:W8.frozen? ⟨kb,1028,none⟩=false:=h98.fz 1028))
    all_goals
     go_wp2;go_meet;case rel=>exact ⟨g8,cap8,W8,rfl,hown8,hat8,hf28⟩
   case rest=>
    obtain ⟨g8,cap8,W8,rfl,hown8,hat8,hf28⟩:=hcut;have h98:=h9.frame hf28 (fun k hk e=>hdk9 k e hk);have hb8:=hf28.same hb9 (fun e=>by
     have e':V.dv.ownBlock=some w.heap.size:=by rw [hdv'];exact e
     have:=h.fqLt (k:=w.heap.size) (.inr (.inl e'));omega)
    have h88:=h98.setD (.slice (some ⟨g8,0,none⟩) (S.D.length+1) cap8);have hgk:g8≠kb:=by
     rintro rfl;rcases hat8 with e | e
     ·exact hdk9 _ e (.inl rfl)
     ·omega
    have hb88:=(Fr.s1 W8 kb 1028 (.slice (some ⟨g8,0,none⟩) (S.D.length+1) cap8)).same hb8 (fun e=>hkw e.symm);have hd88:=(Fr.s1 W8 kb 1028 (.slice (some ⟨g8,0,none⟩) (S.D.length+1) cap8)).owns hown8 (fun k hk e=>hgk (by cases hk;exact e))
    have hnew8:∀k,(Value.slice (some ⟨g8,0,none⟩) (S.D.length+1) cap8).ownBlock=some k->V.dv.ownBlock=some k\/w.heap.size<=k:=by
     intro k hk;cases hk
     rcases hat8 with e | e
     ·left;rw [hdv'];exact e
     ·right;show _<=g8;omega
    have hf88:Fr w (W8.setCell ⟨kb,1028,none⟩ (.slice (some ⟨g8,0,none⟩) (S.D.length+1) cap8)) (V.fo kb):=
     (hf9.step hf28 (fun k hk=>.inl (.inr (by rw [hdv'];exact hk)))).setCell (.inl (.inl (.inl rfl))) _ _
    have hdg:∀k,(Value.slice (some ⟨g8,0,none⟩) (S.D.length+1) cap8).ownBlock=some k->¬({V with nv:=Value.slice A9 (S.R.N.filter (fun t=>!au b t)).length cap9,dv:=.slice (some ⟨g8,0,none⟩) (S.D.length+1) cap8}:ax).fp kb k:=by
     intro k hk hfp;cases hk
     rcases hat8 with e | e
     ·exact hdk9 g8 e hfp
     ·have:g8<W2.heap.size:=h9.fpLt hfp;omega
    generalize (W8.setCell ⟨kb,1028,none⟩ (.slice (some ⟨g8,0,none⟩) (S.D.length+1) cap8))=W3 at *
    clear hown8 hat8 hf28 h98 hb8 hgk hf9 hd9 h9 hcd hzd hb9 hc1' hc2' hk9 hdk9 hs2;generalize hdd:Value.slice (some ⟨g8,0,none⟩) (S.D.length+1) cap8=dd at *
    generalize hnnv:Value.slice A9 (S.R.N.filter (fun t=>!au b t)).length cap9=nn at *
    have HG:Hid (jd S 2 b bits=⟨{L:=S.R.L,N:=S.R.N.filter (fun t=>!au b t),T:=S.R.T.map (fl b)},S.D++[(b,pw (bits-2).toNat)],S.ws,S.q⟩):=by
     show _=_;unfold jd;rw [if_pos rfl]
    obtain ⟨AT,capT,htv,hAT⟩:=h88.ltt;have htv':V.tv=.slice AT S.R.T.length capT:=htv;have hct3:=h88.ct;rw [htv] at hct3;have hk3:kb<W3.heap.size:=World.block_lt_of_cell? _ _ hct3;have hc13:=aa (o:=1) hb88 rfl;go_wp2;go_loopw [6] (fun i w'=>∃k:Nat,i=.int .i64 k/\k<=S.R.T.length/\aj w' kb {L:=S.R.L,N:=S.R.N.filter (fun t=>!au b t),T:=fu b S.R.T k} {V with nv:=nn,dv:=dd}/\Fr W3 w' (fun r=>V.tv.ownBlock=some r)) (fun i _=>S.R.T.length-(intOf i).toNat)
    case atStart=>exact ⟨0,rfl,by omega,h88,Fr.refl _ _⟩
    case round=>
     obtain ⟨k,rfl,hk,hrr,hfr⟩:=hrel;have hctr:wr.cell? ⟨kb,1026,none⟩=some (.slice AT S.R.T.length capT):=by rw [<- htv'];exact hrr.ct
     have hkr:kb<wr.heap.size:=World.block_lt_of_cell? _ _ hctr;have hbr:=hfr.same hb88 (fun e=>by have:=h.ref.fpLt (k:=w.heap.size) (.inr (.inr (.inr e)));omega)
     have hc1r:=aa (o:=1) hbr rfl;by_cases hlt:k<S.R.T.length
     ·obtain ⟨g9,cap9',hv9,_,hg9,q0,q1,q2,q3,q4,q5⟩:=iq hrr k (by rw [kz];exact hlt);have hv9':V.tv=.slice (some ⟨g9,0,none⟩) (fu b S.R.T k).length cap9':=hv9;rw [af_ b S.R.T k hlt] at q0 q1 q2 q3 q4 q5;rw [<- htv',hv9',kz] at hctr;have hsc:=aw5 b S.R.T k hlt;by_cases hb:S.R.T[k].root=b
      ·have hb':(S.R.T[k].root==b)=true:=by simpa using hb
       have hno:fl b S.R.T[k]={S.R.T[k] with root:=-1}:=by unfold fl;rw [if_pos hb]
       have hset:=hrr.setRoot (p:=k) (by rw [kz];exact hlt) hv9 (-1);have hrt:(fu b S.R.T k).set k {(fu b S.R.T k)[k]'(by rw [kz];exact hlt) with root:=-1}=fu b S.R.T (k+1):=by
        rw [hsc,hno];congr 1;rw [af_ b S.R.T k hlt]
       have hset':aj (wr.setCell ⟨g9,k*6+2,none⟩ (.int .i64 (-1))) kb {L:=S.R.L,N:=S.R.N.filter (fun t=>!au b t),T:=fu b S.R.T (k+1)} {V with nv:=nn,dv:=dd}:=by
        rw [<- hrt];exact hset
       have hz2:wr.frozen? ⟨g9,k*6+2,none⟩=false:=by
        obtain ⟨_,_,hcc⟩:=nz hrr.t (by show V.tv.ownBlock=some g9;rw [hv9'];rfl);exact ab hcc
       clear hb hno hset hrt hsc hrr;go_wp2;go_quiet (fail)
       go_wp2;go_roundw;case rel=>exact ⟨k+1,by go_num,by omega,aj.frame hset' ((Fr.refl _ (fun _=>False)).drewN _) (fun _ _=>id),(hfr.drewN _).setCell (.inl (by rw [hv9'];rfl)) _ _⟩
       case measure=>simp [intOf];omega
      ·have hb':(S.R.T[k].root==b)=false:=by simpa using hb
       have hno:fl b S.R.T[k]=S.R.T[k]:=by unfold fl;rw [if_neg hb]
       have hrt:fu b S.R.T (k+1)=fu b S.R.T k:=at7 b S.R.T k hlt hno;have HR:Hid (fu b S.R.T (k+1)=fu b S.R.T k):=hrt;clear hb hno hrt hsc;go_wp2;go_quiet (fail)
       go_wp2;go_roundw;case rel=>exact ⟨k+1,by go_num,by omega,by rw [HR.out];exact hrr.frame ((Fr.refl _ (fun _=>False)).drewN _) (fun _ _=>id),hfr.drewN _⟩
       case measure=>simp [intOf];omega
     ·obtain rfl:k=S.R.T.length:=by omega
      rw [a66] at hrr;have hfin:fh w kb V (jd S 2 b bits) {V with nv:=nn,dv:=dd} wr:=by
       rw [HG.out];have hX:Fr w wr (V.fo kb):=hf88.step hfr (fun k hk=>.inl (.inl (.inr (.inr (.inr hk)))))
       refine ⟨⟨hrr,h.ws,?_,hdg,hX.owns h.q (fun k hk e=>e.elim (h.qk k hk).1 (h.qk k hk).2),fun k hk=>?_⟩,hX.mono (fun k e=>e.elim .inl (fun e=>.inr (.inl e))),?_⟩
       ·show wr.ownsRow 0 116 2 dd (S.D++[(b,pw (bits-2).toNat)]).length ((S.D++[(b,pw (bits-2).toNat)]).flatMap sg);rw [List.flatMap_append,List.length_append];have:=hfr.owns hd88 (fun k hk e=>hdg k hk (.inr (.inr (.inr e))))
        simpa [sg] using this
       ·have hkl:=h.fqLt (k:=k) (.inr (.inr hk));refine ⟨?_,fun e=>?_⟩
        ·rintro (h5 | h5 | h5 | h5)
         ·exact (h.qk k hk).1 (.inl h5)
         ·exact (h.qk k hk).1 (.inr (.inl h5))
         ·have:=hnew k h5;omega
         ·exact (h.qk k hk).1 (.inr (.inr (.inr h5)))
        ·rcases hnew8 k e with e1 | e1
         ·exact (h.qk k hk).2 e1
         ·omega
       ·rintro k ((h5 | h5 | h5 | h5) | h5 | h5)
        ·exact .inl (.inl (.inl h5))
        ·exact .inl (.inl (.inr (.inl h5)))
        ·exact .inr (hnew k h5)
        ·exact .inl (.inl (.inr (.inr (.inr h5))))
        ·exact (hnew8 k h5).imp (fun e=>.inr (.inl e)) id
        ·exact .inl (.inr (.inr h5))
      have HFIN:Hid (fh w kb V (jd S 2 b bits) {V with nv:=nn,dv:=dd} wr):=hfin;clear hfin hrr;go_wp2;go_end0;exact ⟨rfl,_,_,HFIN.out⟩
end Go.Proofs.YtdpjgflemddekaaGreatDoor
