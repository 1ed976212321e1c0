/- The document's kernel with what is doomed, and the bits: in memory; a poll. -/
import Derived.Test.YtdpjgflemddekaaGreatDoorMRefA
import Derived.Test.YtdpjgflemddekaaGreatDoorMTakA
import Derived.Laws.AppendOwnNone
set_option maxRecDepth 100000
set_option maxHeartbeats 2000000
namespace Go.Proofs.YtdpjgflemddekaaGreatDoor
open Go.RowKit
theorem Fr.s1 (w:World)(b o:Nat)(v:Value):Fr w (w.setCell ⟨b,o,none⟩ v) (fun k=>k=b):=Fr.setCell (S:=fun k=>k=b) (Fr.refl _ _) (.inl rfl) _ _
def sg (d:Int×Int):List Value:=[.int .i64 d.1,.int .i64 d.2]
theorem t_ (d:Int×Int):(sg d).length=2:=rfl
theorem bu5 (d:Int×Int):∀u∈sg d,u.oneCell'=true:=by intro u hu;simp [sg] at hu;rcases hu with rfl | rfl<;>rfl
def eo (w:World)(v:Value)(l:List Bool):Prop:=
 ∃A cap,v=.slice A l.length cap/\l.length<=cap/\(0<l.length->∃g o,A=some ⟨g,o,none⟩/\∀i (hi:i<l.length),w.cell? ⟨g,o+i,none⟩=some (.bool l[i]))
def sj (x:Wt):List Value:=[.int .i64 x.endp,.int .i64 x.thread,.bool x.send,.int .i64 x.value,.int .i64 x.badge]
theorem xh (x:Wt):(sj x).length=5:=rfl
theorem ae8 (x:Wt):∀u∈sj x,u.oneCell'=true:=by intro u hu;simp [sj] at hu;rcases hu with rfl | rfl | rfl | rfl | rfl<;>rfl
structure RD (w:World)(kb:Nat)(S:RS)(V:ax):Prop where
 ref:aj w kb S.R V
 ws:V.ws=S.ws
 d:w.ownsRow 0 116 2 V.dv S.D.length (S.D.flatMap sg)
 dk:∀k,V.dv.ownBlock=some k->¬V.fp kb k
 q:w.ownsRow 0 191 5 V.qv S.q.length (S.q.flatMap sj)
 qk:∀k,V.qv.ownBlock=some k->¬V.fp kb k/\V.dv.ownBlock≠some k
def ax.fq (kb:Nat)(V:ax)(k:Nat):Prop:=V.fp kb k\/V.dv.ownBlock=some k\/V.qv.ownBlock=some k
theorem RD.fqLt {w:World}{kb:Nat}{S:RS}{V:ax}(h:RD w kb S V){k:Nat}(hk:V.fq kb k):k<w.heap.size:=by
 rcases hk with hk | hk | hk
 ·exact h.ref.fpLt hk
 ·exact (h.d.lt k hk).2
 ·exact (h.q.lt k hk).2
theorem RD.frame {w w':World}{kb:Nat}{S:RS}{V:ax}{X:Nat->Prop}(h:RD w kb S V)(hf:Fr w w' X)(hs:∀k,V.fq kb k->¬X k):RD w' kb S V:=
 ⟨h.ref.frame hf (fun k hk=>hs k (.inl hk)),h.ws,hf.owns h.d (fun k hk=>hs k (.inr (.inl hk))),h.dk,hf.owns h.q (fun k hk=>hs k (.inr (.inr hk))),h.qk⟩
structure fh (w:World)(kb:Nat)(V:ax)(S':RS)(V':ax)(w':World):Prop where
 rd:RD w' kb S' V'
 fr:Fr w w' (V.fq kb)
 new:∀k,V'.fq kb k->V.fq kb k\/w.heap.size<=k
theorem fh.trans {w w1 w2:World}{kb:Nat}{V V1 V2:ax}{S1 S2:RS}(h:fh w kb V S1 V1 w1)(h2:fh w1 kb V1 S2 V2 w2):fh w kb V S2 V2 w2:=
 ⟨h2.rd,h.fr.step h2.fr h.new,fun k hk=>by
  rcases h2.new k hk with h3 | h3
  ·exact h.new k h3
  ·exact .inr (Nat.le_trans h.fr.size h3)⟩
theorem aj.cb {w:World}{kb:Nat}{R:dq}{V:ax}(h:aj w kb R V):w.cell? ⟨kb,1029,none⟩=some V.bv:=by
 obtain ⟨c,hc,hcc⟩:=h.blk;exact aa hc hcc.b
theorem aj.cs {w:World}{kb:Nat}{R:dq}{V:ax}(h:aj w kb R V):w.cell? ⟨kb,1030,none⟩=some V.sv:=by
 obtain ⟨c,hc,hcc⟩:=h.blk;exact aa hc hcc.s
theorem aj.cd {w:World}{kb:Nat}{R:dq}{V:ax}(h:aj w kb R V):w.cell? ⟨kb,1028,none⟩=some V.dv:=by
 obtain ⟨c,hc,hcc⟩:=h.blk;exact aa hc hcc.d
theorem aj.cq {w:World}{kb:Nat}{R:dq}{V:ax}(h:aj w kb R V):w.cell? ⟨kb,1027,none⟩=some V.qv:=by
 obtain ⟨c,hc,hcc⟩:=h.blk;exact aa hc hcc.q
theorem aj.cw {w:World}{kb:Nat}{R:dq}{V:ax}(h:aj w kb R V){i:Nat}(hi:i<1024):w.cell? ⟨kb,i+1,none⟩=some (.int .i64 (V.ws i)):=by
 obtain ⟨c,hc,hcc⟩:=h.blk;exact aa hc (hcc.w i hi)
theorem aj.setSB {w:World}{kb:Nat}{R:dq}{V:ax}(h:aj w kb R V)(bv sv:Value):
 aj ((w.setCell ⟨kb,1030,none⟩ sv).setCell ⟨kb,1029,none⟩ bv) kb R {V with bv:=bv,sv:=sv}:=by
 have hf:Fr w ((w.setCell ⟨kb,1030,none⟩ sv).setCell ⟨kb,1029,none⟩ bv) (fun k=>k=kb):=
  Fr.setCell (S:=fun k=>k=kb) (Fr.setCell (S:=fun k=>k=kb) (Fr.refl _ _) (.inl rfl) _ _) (.inl rfl) _ _
 obtain ⟨c,hc,hcc⟩:=h.blk;refine ⟨⟨_,ak _ kb 1029 bv (ak w kb 1030 sv hc),?_⟩,hf.owns h.l (fun k hk e=>h.kl (e▸hk)),hf.owns h.n (fun k hk e=>h.kn (e▸hk)),hf.owns h.t (fun k hk e=>h.kt (e▸hk)),h.kl,h.kn,h.kt,h.ln,h.lt,h.nt⟩
 obtain ⟨c0,c1,c2,c3,c4,c5,c6,c7,c8⟩:=hcc;refine ⟨by simpa using c0,?_,?_,?_,?_,?_,?_,by simp [c0],?_⟩
 ·rw [Array.getElem?_setIfInBounds_ne (by omega),Array.getElem?_setIfInBounds_ne (by omega)];exact c1
 ·intro i hi;rw [Array.getElem?_setIfInBounds_ne (by omega),Array.getElem?_setIfInBounds_ne (by omega)];exact c2 i hi
 ·rw [Array.getElem?_setIfInBounds_ne (by omega),Array.getElem?_setIfInBounds_ne (by omega)];exact c3
 ·rw [Array.getElem?_setIfInBounds_ne (by omega),Array.getElem?_setIfInBounds_ne (by omega)];exact c4
 ·rw [Array.getElem?_setIfInBounds_ne (by omega),Array.getElem?_setIfInBounds_ne (by omega)];exact c5
 ·rw [Array.getElem?_setIfInBounds_ne (by omega),Array.getElem?_setIfInBounds_ne (by omega)];exact c6
 ·rw [Array.getElem?_setIfInBounds_ne (by omega)];simp [c0]
structure b93 (w:World)(kb:Nat)(V:ax)(bs:List Bool):Prop where
 at_:eo w V.bv bs
 s:V.sv=.bool false
 out:∀g,V.bv.ownBlock=some g->0<bs.length->¬V.fq kb g/\g<w.heap.size
theorem a84 {w:World}{g o kb cap:Nat}{b:Bool}{r:List Bool}{x y:Value}{A:Option Addr}{c':Nat}(hg:g≠kb)(hc:∀i (hi:i<(b :: r).length),w.cell? ⟨g,o+i,none⟩=some (.bool (b :: r)[i]))(hcap:r.length+1<=cap)
 (h:cap=1\/(A=some ⟨g,o+1,none⟩/\c'=cap-1)):eo ((w.setCell ⟨kb,1030,none⟩ x).setCell ⟨kb,1029,none⟩ y) (.slice A r.length c') r:=by
 rcases h with rfl | ⟨rfl,rfl⟩
 ·refine ⟨A,c',rfl,by omega,fun h=>by omega⟩
 ·refine ⟨_,_,rfl,by omega,fun _=>⟨g,o+1,rfl,fun i hi=>?_⟩⟩
  have:=hc (i+1) (by simpa using hi);have hf:Fr w ((w.setCell ⟨kb,1030,none⟩ x).setCell ⟨kb,1029,none⟩ y) (fun k=>k=kb):=Fr.setCell (S:=fun k=>k=kb) (Fr.setCell (S:=fun k=>k=kb) (Fr.refl _ _) (.inl rfl) _ _) (.inl rfl) _ _;have h2:=hf.cell this hg;simp only [List.getElem_cons_succ] at h2;rw [show o+1+i=o+(i+1) by omega];exact h2
theorem a42 (S:RS)(V:ax)(kb:Nat)(bs:List Bool)(w:World)(h:RD w kb S V)(hb:b93 w kb V bs):
 Calls Tryz.prog 103 #[.pointer (some ⟨kb,0,none⟩)] w fun e' w'=>e'=.returned (.bool (!(ar bs).1))/\
  ∃bv,eo w' bv (ar bs).2/\(∀g,bv.ownBlock=some g->V.bv.ownBlock=some g)/\RD w' kb S {V with bv:=bv,sv:=.bool (ar bs).1}/\Fr w w' (fun k=>k=kb):=by
 have h0:=h;have hcb:=h.ref.cb;have hcs:=h.ref.cs;have hzb:=h.ref.fz 1029;have hzs:=h.ref.fz 1030;obtain ⟨A,cap,hbv,hcap,hA⟩:=hb.at_;have hsv:=hb.s;rw [hbv] at hcb;rw [hsv] at hcs;have hklt:kb<w.heap.size:=World.block_lt_of_cell? w _ hcb;cases bs with
 | nil=>
  go_enter Tryz.func103,Tryz.ntmps103
  go_wp2;go_ret;exact ⟨rfl,V.bv,hb.at_,fun _ h=>h,by simp only [ar];rw [<- hsv];exact h,Fr.refl _ _⟩
 | cons b r=>
  obtain ⟨g,o,rfl,hc⟩:=hA (by simp);have hc0:=hc 0 (by simp);simp only [Nat.add_zero,List.getElem_cons_zero] at hc0;have hgkb:g≠kb:=fun e=>(hb.out g (by rw [hbv];rfl) (by simp)).1 (.inl (.inl e))
  simp only [List.length_cons] at hcap hcb;go_enter Tryz.func103,Tryz.ntmps103
  go_wp2;all_goals
   go_ret;refine ⟨rfl,_,?_,?_,⟨h0.ref.setSB _ _,h0.ws,?_,h0.dk,?_,h0.qk⟩,Fr.setCell (S:=fun k=>k=kb) (Fr.setCell (S:=fun k=>k=kb) (Fr.refl _ _) (.inl rfl) _ _) (.inl rfl) _ _⟩
   ·refine a84 hgkb hc hcap ?_;first
    |(left;omega)
    |(right;exact ⟨rfl,rfl⟩)
   ·intro g' hg';exact hg'
   ·exact (Fr.setCell (S:=fun k=>k=kb) (Fr.setCell (S:=fun k=>k=kb) (Fr.refl _ _) (.inl rfl) _ _) (.inl rfl) _ _).owns h0.d (fun k hk e=>h0.dk k hk (.inl e))
   ·exact (Fr.setCell (S:=fun k=>k=kb) (Fr.setCell (S:=fun k=>k=kb) (Fr.refl _ _) (.inl rfl) _ _) (.inl rfl) _ _).owns h0.q (fun k hk e=>(h0.qk k hk).1 (.inl e))
theorem aj.setQ {w:World}{kb:Nat}{R:dq}{V:ax}(h:aj w kb R V)(v:Value):aj (w.setCell ⟨kb,1027,none⟩ v) kb R {V with qv:=v}:=by
 have hf:Fr w (w.setCell ⟨kb,1027,none⟩ v) (fun k=>k=kb):=Fr.setCell (S:=fun k=>k=kb) (Fr.refl _ _) (.inl rfl) _ _;obtain ⟨c,hc,hcc⟩:=h.blk;refine ⟨⟨_,ak w kb 1027 v hc,?_⟩,hf.owns h.l (fun k hk e=>h.kl (e▸hk)),hf.owns h.n (fun k hk e=>h.kn (e▸hk)),hf.owns h.t (fun k hk e=>h.kt (e▸hk)),h.kl,h.kn,h.kt,h.ln,h.lt,h.nt⟩
 obtain ⟨c0,c1,c2,c3,c4,c5,c6,c7,c8⟩:=hcc;refine ⟨by simpa using c0,?_,?_,?_,?_,by simp [c0],?_,?_,?_⟩
 ·rw [Array.getElem?_setIfInBounds_ne (by omega)];exact c1
 ·intro i hi;rw [Array.getElem?_setIfInBounds_ne (by omega)];exact c2 i hi
 all_goals (rw [Array.getElem?_setIfInBounds_ne (by omega)];assumption)
theorem aj.setD {w:World}{kb:Nat}{R:dq}{V:ax}(h:aj w kb R V)(v:Value):aj (w.setCell ⟨kb,1028,none⟩ v) kb R {V with dv:=v}:=by
 have hf:Fr w (w.setCell ⟨kb,1028,none⟩ v) (fun k=>k=kb):=Fr.setCell (S:=fun k=>k=kb) (Fr.refl _ _) (.inl rfl) _ _;obtain ⟨c,hc,hcc⟩:=h.blk;refine ⟨⟨_,ak w kb 1028 v hc,?_⟩,hf.owns h.l (fun k hk e=>h.kl (e▸hk)),hf.owns h.n (fun k hk e=>h.kn (e▸hk)),hf.owns h.t (fun k hk e=>h.kt (e▸hk)),h.kl,h.kn,h.kt,h.ln,h.lt,h.nt⟩
 obtain ⟨c0,c1,c2,c3,c4,c5,c6,c7,c8⟩:=hcc;refine ⟨by simpa using c0,?_,?_,?_,?_,?_,by simp [c0],?_,?_⟩
 ·rw [Array.getElem?_setIfInBounds_ne (by omega)];exact c1
 ·intro i hi;rw [Array.getElem?_setIfInBounds_ne (by omega)];exact c2 i hi
 all_goals (rw [Array.getElem?_setIfInBounds_ne (by omega)];assumption)
theorem wz {α:Type}(p:α->Bool)(L:List α)(k:Nat)(hk:k<L.length):(L.take (k+1)).filter p=(L.take k).filter p++(if p L[k] then [L[k]] else []):=by
 rw [List.take_succ_eq_append_getElem hk,List.filter_append];by_cases h:p L[k]=true
 ·rw [if_pos h,List.filter_cons_of_pos h];rfl
 ·rw [if_neg h,List.filter_cons_of_neg h];rfl
theorem zj {α:Type}(p:α->Bool)(L:List α)(k:Nat):((L.take k).filter p).length<=k:=Nat.le_trans (List.length_filter_le _ _) (by simp;omega)
theorem bb8:(Tryz.prog.info? 191).map (fun i=>(i.zero,i.size,i.bytes))=some (some (.agg #[.int .i64 0,.int .i64 0,.bool false,.int .i64 0,.int .i64 0]),5,40):=by kernel_rfl
theorem ss (S:RS)(V:ax)(kb:Nat)(t:Int)(w:World)(h:RD w kb S V)(hn:S.q.length<=900000):
 Calls Tryz.prog 109 #[.pointer (some ⟨kb,0,none⟩),.int .i64 t] w fun e' w'=>e'=.returned (.tuple #[])/\∃qv,fh w kb V {S with q:=k_ t S.q} {V with qv:=qv} w'/\Fr w w' (V.fp kb):=by
 obtain ⟨i0,hi0,hz0,hz1,hz2⟩:=info_parts bb8;have hcq:=h.ref.cq;have hklt:kb<w.heap.size:=World.block_lt_of_cell? w _ hcq;obtain ⟨A,cap,hqv,hA⟩:=bm xh h.q;rw [hqv] at hcq;go_enter Tryz.func109,Tryz.ntmps109
 go_wp2;go_loopw [4,5] (fun l i w'=>∃k n:Nat,i=.int .i64 k/\k<=S.q.length/\n=((S.q.take k).filter (fun x=>decide (x.thread≠t))).length/\w'.ownsRow w.heap.size 191 5 l n (((S.q.take k).filter (fun x=>decide (x.thread≠t))).flatMap sj)/\Fr w w' (fun _=>False)) (fun _ i _=>S.q.length-(intOf i).toNat)
 case atStart=>exact ⟨0,0,rfl,by omega,rfl,World.ownsRow_nil _ _ _ _,Fr.refl _ _⟩
 case round=>
  obtain ⟨k,n,rfl,hk,hnn,hown,hfr⟩:=hrel;have hr:=h.frame hfr (fun _ _=>id);have hctr:wr.cell? ⟨kb,1027,none⟩=some (.slice A S.q.length cap):=hfr.cell hcq id;have hnl:=zj (fun x:Wt=>decide (x.thread≠t)) S.q k
  have hkr:kb<wr.heap.size:=World.block_lt_of_cell? _ _ hctr;by_cases hlt:k<S.q.length
  ·obtain ⟨ga,rfl,hcells⟩:=hA (by omega);have q0:=hfr.cell (hcells k hlt 0 _ rfl) id;have q1:=hfr.cell (hcells k hlt 1 _ rfl) id;have q2:=hfr.cell (hcells k hlt 2 _ rfl) id;have q3:=hfr.cell (hcells k hlt 3 _ rfl) id;have q4:=hfr.cell (hcells k hlt 4 _ rfl) id;simp only [Nat.add_zero] at q0;have hgr:ga<wr.heap.size:=World.block_lt_of_cell? _ _ q0;have hft:=wz (fun x:Wt=>decide (x.thread≠t)) S.q k hlt
   by_cases hb:S.q[k].thread=t
   ·have hb':(S.q[k].thread != t)=false:=by simpa using hb
    have HF:Hid ((S.q.take (k+1)).filter (fun x=>decide (x.thread≠t))=(S.q.take k).filter (fun x=>decide (x.thread≠t))):=by
     show _=_;rw [hft,if_neg (by simp [hb]),List.append_nil]
    clear hft hb;go_wp2;go_roundw;case rel=>exact ⟨k+1,n,by go_num,by omega,by rw [HF.out];exact hnn,by rw [HF.out];exact hown,hfr⟩
    case measure=>simp [intOf];omega
   ·have hb':(S.q[k].thread != t)=true:=by simpa using hb
    have HF:Hid ((S.q.take (k+1)).filter (fun x=>decide (x.thread≠t))=(S.q.take k).filter (fun x=>decide (x.thread≠t))++[S.q[k]]):=by
     show _=_;rw [hft,if_pos (by simp [hb])]
    clear hft hb;have hsz:=hfr.size;go_wp2_with (at_builtin;go_must (refine wpList_append_own _ rfl _ _ 104 rfl w.heap.size 191 i0 _ 5 40 Tryz.underlying104 hi0 hz0 hz1 hz2 rfl (by decide) _ n _ rfl (World.ownsRow.alloc hown _) ⟨_,0,none⟩ 1 1 (sj S.q[k]) rfl rfl (xf _ _ _ _ (by simp)) (ae8 _) ?_ ?_ ?_ ?_))
    ·unfold maxLen;omega
    ·omega
    ·exact Nat.le_trans hsz (by simp)
    intro v5 W5 hown5 hg5 hnil5;have hlt5:=World.ownsRow.lt hown;have hf5:Fr w W5 (fun _=>False):=(hfr.alloc _).grown hg5 (fun r hr=>.inr (hlt5 r hr).1)
    clear hg5 hnil5;go_wp2;go_roundw;case rel=>exact ⟨k+1,n+1,by go_num,by omega,by rw [HF.out];simp [hnn],by rw [HF.out,List.flatMap_append,hnn];simpa using hown5,hf5⟩
    case measure=>simp [intOf];omega
  ·have hzt:=hr.ref.fz 1027;obtain rfl:k=S.q.length:=by omega
   rw [List.take_length] at hnn hown;subst hnn;have hlt9:=World.ownsRow.lt hown;have hnew:∀k,u4.ownBlock=some k->w.heap.size<=k:=fun k hk=>(hlt9 k hk).1
   have hf9:Fr w (wr.setCell ⟨kb,1027,none⟩ u4) (V.fp kb):=(hfr.mono (fun _=>False.elim)).setCell (.inl (.inl rfl)) _ _;have hfs:=Fr.s1 wr kb 1027 u4;have h9:RD (wr.setCell ⟨kb,1027,none⟩ u4) kb {S with q:=k_ t S.q} {V with qv:=u4}:=
    ⟨hr.ref.setQ u4,hr.ws,hfs.owns hr.d (fun k hk e=>h.dk k hk (.inl e)),h.dk,jn (hfs.owns hown (fun k hk e=>by have:=hnew k hk;omega)) (Nat.zero_le _),fun k hk=>⟨fun e=>by have:=h.fqLt (k:=k) (.inl e);have:=hnew k hk;omega,fun e=>by have:=h.fqLt (k:=k) (.inr (.inl e));have:=hnew k hk;omega⟩⟩
   have hnw:∀k,({V with qv:=u4}:ax).fq kb k->V.fq kb k\/w.heap.size<=k:=fun k hk=>by
    rcases hk with e | e | e
    ·exact .inl (.inl e)
    ·exact .inl (.inr (.inl e))
    ·exact .inr (hnew k e)
   obtain ⟨A9,n9,cap9,rfl⟩:∃A n cap,u4=.slice A n cap:=by
    rcases hown.2 with ⟨e0,_⟩ | ⟨g,cap,cur,e0,_⟩
    ·exact ⟨_,_,_,e0⟩
    ·exact ⟨_,_,_,e0⟩
   clear hown hlt9 hA hcq hqv hr;go_wp2;go_end0;exact ⟨rfl,_,⟨h9,hf9.mono (fun _ hk=>.inl hk),hnw⟩,hf9⟩
theorem bq6:(Tryz.prog.info? 110).map (fun i=>(i.zero,i.size,i.bytes))=some (some (.agg #[.int .i64 0,.int .i64 0]),2,16):=by kernel_rfl
theorem bq9:(Tryz.prog.info? 112).map (fun i=>(i.zero,i.size,i.bytes))=some (some (.agg #[.int .i64 0,.int .i64 0,.int .i64 0,.int .i64 0,.int .i64 0,.int .i64 0]),6,48):=by kernel_rfl
theorem b35:(Tryz.prog.info? 116).map (fun i=>(i.zero,i.size,i.bytes))=some (some (.agg #[.int .i64 0,.int .i64 0]),2,16):=by kernel_rfl
def r8 (ty b bits r g m:Int):Value:=.agg #[.int .i64 ty,.int .i64 b,.int .i64 bits,.int .i64 r,.int .i64 g,.int .i64 m]
theorem bb7 (S:RS)(V:ax)(kb:Nat)(ty b bits r g m:Int)(w:World)(h:RD w kb S V)(h2:ty≠2)(h3:ty≠3)(h4:ty≠4):
 Calls Tryz.prog 115 #[.pointer (some ⟨kb,0,none⟩),r8 ty b bits r g m] w fun e' w'=>e'=.returned (.tuple #[])/\RD w' kb (jd S ty b bits) V/\Fr w w' (fun _=>False):=by
 have hS:jd S ty b bits=S:=by unfold jd;rw [if_neg h2,if_neg h3,if_neg h4]
 have HS:Hid (jd S ty b bits=S):=hS;clear hS;have h2':(ty==2)=false:=by simpa using h2
 have h4':(ty==4)=false:=by simpa using h4
 clear h2 h4;unfold r8;have h3':(ty==3)=false:=by simpa using h3
 clear h3;go_enter Tryz.func115,Tryz.ntmps115
 go_wp2;go_end0;exact ⟨rfl,by rw [HS.out];exact h.frame ((Fr.refl _ (fun _=>False)).alloc _) (fun _ _=>id),(Fr.refl _ _).alloc _⟩
theorem bi2 (S:RS)(V:ax)(kb:Nat)(b bits r g m:Int)(w:World)(h:RD w kb S V)(hn:S.R.T.length<=900000)(hnq:S.q.length<=900000):
 Calls Tryz.prog 115 #[.pointer (some ⟨kb,0,none⟩),r8 4 b bits r g m] w fun e' w'=>e'=.returned (.tuple #[])/\∃tv qv,fh w kb V (jd S 4 b bits) {V with tv:=tv,qv:=qv} w':=by
 obtain ⟨i0,hi0,hz0,hz1,hz2⟩:=info_parts bq9;have hklt:kb<w.heap.size:=World.block_lt_of_cell? w _ h.ref.ct;unfold r8;go_enter Tryz.func115,Tryz.ntmps115
 go_wp2_with fail
 have h0:RD (w.alloc (Obj.cells #[.int .i64 4,.int .i64 b,.int .i64 bits,.int .i64 r,.int .i64 g,.int .i64 m] 46)) kb S V:=h.frame ((Fr.refl _ (fun _=>False)).alloc _) (fun _ _=>id);refine (ss S V kb b _ h0 hnq).mono ?_;rintro e w1 ⟨rfl,qv,⟨h1,hf1,hs9⟩,_⟩;have hbox:w1.heap[w.heap.size]?=some (Obj.cells #[.int .i64 4,.int .i64 b,.int .i64 bits,.int .i64 r,.int .i64 g,.int .i64 m] 46):=hf1.same (heap_alloc_new _ _) (fun e=>by have:=h.fqLt e;omega);have hs1:w.heap.size+1<=w1.heap.size:=by have:=hf1.size;simpa using this
 have hfw1:Fr w w1 (V.fq kb):=((Fr.refl w (V.fq kb)).alloc _).step hf1 (fun k hk=>.inl hk);have hqn:∀k,qv.ownBlock=some k->V.fq kb k\/w.heap.size<=k:=fun k hk=>(hs9 k (.inr (.inr hk))).imp id (fun e=>by simp at e;omega)
 obtain ⟨A,cap,htv,hA⟩:=h1.ref.ltt;have hct:=h1.ref.ct;rw [htv] at hct;clear hf1 h0;go_wp2;go_loopw [9,10] (fun l i w'=>∃k n:Nat,i=.int .i64 k/\k<=S.R.T.length/\n=((S.R.T.take k).filter (fun t=>!af b t)).length/\w'.ownsRow w1.heap.size 112 6 l n (((S.R.T.take k).filter (fun t=>!af b t)).flatMap ej.vals)/\Fr w1 w' (fun _=>False)) (fun _ i _=>S.R.T.length-(intOf i).toNat)
 case atStart=>exact ⟨0,0,rfl,by omega,rfl,World.ownsRow_nil _ _ _ _,Fr.refl _ _⟩
 case round=>
  obtain ⟨k,n,rfl,hk,hnn,hown,hfr⟩:=hrel;have hr:=h1.frame hfr (fun _ _=>id);have hctr:wr.cell? ⟨kb,1026,none⟩=some (.slice A S.R.T.length cap):=hfr.cell hct id;have hbr:=hfr.same hbox id;have hc1:=aa (o:=1) hbr rfl;have hnl:=zj (fun t=>!af b t) S.R.T k;have hkr:kb<wr.heap.size:=World.block_lt_of_cell? _ _ hctr;by_cases hlt:k<S.R.T.length
  ·obtain ⟨ga,rfl,hcells⟩:=hA (by omega);obtain ⟨q0,q1,q2,q3,q4,q5⟩:=bt6 hcells k hlt;have q0:=hfr.cell q0 id;have q1:=hfr.cell q1 id;have q2:=hfr.cell q2 id;have q3:=hfr.cell q3 id;have q4:=hfr.cell q4 id;have q5:=hfr.cell q5 id;have hgr:ga<wr.heap.size:=World.block_lt_of_cell? _ _ q0;have hft:=wz (fun t=>!af b t) S.R.T k hlt;by_cases hb:S.R.T[k].base=b
   ·have hb':(S.R.T[k].base != b)=false:=by simpa using hb
    have HF:Hid ((S.R.T.take (k+1)).filter (fun t=>!af b t)=(S.R.T.take k).filter (fun t=>!af b t)):=by
     show _=_;rw [hft,if_neg (by simp [af,hb]),List.append_nil]
    clear hft hb;go_wp2;go_quiet (fail)
    go_wp2;go_roundw;case rel=>exact ⟨k+1,n,by go_num,by omega,by rw [HF.out];exact hnn,by rw [HF.out];exact hown,hfr.drewN _⟩
    case measure=>simp [intOf];omega
   ·have hb':(S.R.T[k].base != b)=true:=by simpa using hb
    have HF:Hid ((S.R.T.take (k+1)).filter (fun t=>!af b t)=(S.R.T.take k).filter (fun t=>!af b t)++[S.R.T[k]]):=by
     show _=_;rw [hft,if_pos (by simp [af,hb])]
    clear hft hb;go_wp2;go_quiet (fail)
    have hownX:(wr.drewN nq).ownsRow w1.heap.size 112 6 u9 n (((S.R.T.take k).filter (fun t=>!af b t)).flatMap ej.vals):=hown;have hfX:Fr w1 (wr.drewN nq) (fun _=>False):=hfr.drewN nq;have hsz:=hfX.size;go_wp2_with (at_builtin;go_must (refine wpList_append_own _ rfl _ _ 103 rfl w1.heap.size 112 i0 _ 6 48 Tryz.underlying103 hi0 hz0 hz1 hz2 rfl (by decide) _ n _ rfl (World.ownsRow.alloc hownX _) ⟨_,0,none⟩ 1 1 S.R.T[k].vals rfl rfl (xf _ _ _ _ (by simp)) (ej.one S.R.T[k]) ?_ ?_ ?_ ?_))
    ·unfold maxLen;omega
    ·omega
    ·exact Nat.le_trans hsz (by simp)
    intro v5 W5 hown5 hg5 hnil5;have hlt5:=World.ownsRow.lt hownX;have hf5:Fr w1 W5 (fun _=>False):=(hfX.alloc _).grown hg5 (fun r hr=>.inr (hlt5 r hr).1)
    clear hg5 hnil5;go_wp2;go_roundw;case rel=>exact ⟨k+1,n+1,by go_num,by omega,by rw [HF.out];simp [hnn],by rw [HF.out,List.flatMap_append,hnn];simpa using hown5,hf5⟩
    case measure=>simp [intOf];omega
  ·have hzt:=hr.ref.fz 1026;obtain rfl:k=S.R.T.length:=by omega
   rw [List.take_length] at hnn hown;subst hnn;have hlt9:=World.ownsRow.lt hown;have hnew:∀k,u9.ownBlock=some k->w.heap.size<=k:=fun k hk=>by have:=(hlt9 k hk).1;omega
   have h9:aj (wr.setCell ⟨kb,1026,none⟩ u9) kb {S.R with T:=S.R.T.filter (fun t=>!af b t)} {V with tv:=u9,qv:=qv}:=by
    refine hr.ref.setT rfl (jn hown (Nat.zero_le _)) (fun k hk=>?_);have hk1:=hnew k hk;refine ⟨fun hk2=>?_,fun hk2=>?_,fun hk2=>by omega⟩
    ·have:=h.ref.fpLt (k:=k) (.inr (.inl hk2));omega
    ·have:=h.ref.fpLt (k:=k) (.inr (.inr (.inl hk2)));omega
   have hf8:Fr w wr (V.fq kb):=hfw1.step hfr (fun _=>False.elim);have hf9:Fr w (wr.setCell ⟨kb,1026,none⟩ u9) (V.fq kb):=hf8.setCell (.inl (.inl (.inl rfl))) _ _;have hS:jd S 4 b bits=⟨{S.R with T:=S.R.T.filter (fun t=>!af b t)},S.D,S.ws,k_ b S.q⟩:=by unfold jd;simp
   have HS:Hid (jd S 4 b bits=⟨{S.R with T:=S.R.T.filter (fun t=>!af b t)},S.D,S.ws,k_ b S.q⟩):=hS;have hO:fh w kb V (jd S 4 b bits) {V with tv:=u9,qv:=qv} (wr.setCell ⟨kb,1026,none⟩ u9):=by
    rw [HS.out];refine ⟨⟨h9,h.ws,(Fr.s1 wr kb 1026 u9).owns hr.d (fun k hk e=>h.dk k hk (.inl e)),?_,(Fr.s1 wr kb 1026 u9).owns hr.q (fun k hk e=>(h1.qk k hk).1 (.inl e)),?_⟩,hf9,?_⟩
    ·rintro k hk (h5 | h5 | h5 | h5)
     ·exact h.dk k hk (.inl h5)
     ·exact h.dk k hk (.inr (.inl h5))
     ·exact h.dk k hk (.inr (.inr (.inl h5)))
     ·have:=hnew k h5;have:=h.fqLt (k:=k) (.inr (.inl hk));omega
    ·intro k hk;refine ⟨?_,(h1.qk k hk).2⟩;rintro (h5 | h5 | h5 | h5)
     ·exact (h1.qk k hk).1 (.inl h5)
     ·exact (h1.qk k hk).1 (.inr (.inl h5))
     ·exact (h1.qk k hk).1 (.inr (.inr (.inl h5)))
     ·have:=(hlt9 k h5).1;have:=h1.fqLt (k:=k) (.inr (.inr hk));omega
    ·rintro k ((h5 | h5 | h5 | h5) | h5 | h5)
     ·exact .inl (.inl (.inl h5))
     ·exact .inl (.inl (.inr (.inl h5)))
     ·exact .inl (.inl (.inr (.inr (.inl h5))))
     ·exact .inr (hnew k h5)
     ·exact .inl (.inr (.inl h5))
     ·exact hqn k h5
   have HO:Hid (fh w kb V (jd S 4 b bits) {V with tv:=u9,qv:=qv} (wr.setCell ⟨kb,1026,none⟩ u9)):=hO;clear hS HS hO h9 hf9 hf8 hnew hlt9;rcases hown.2 with ⟨rfl,_⟩ | ⟨g9,cap9,cur9,rfl,_⟩
   ·clear hown;go_wp2;go_end0;exact ⟨rfl,_,_,HO.out⟩
   ·clear hown;go_wp2;go_end0;exact ⟨rfl,_,_,HO.out⟩
theorem aj.setField {w:World}{kb:Nat}{R:dq}{V:ax}(h:aj w kb R V){g cap p:Nat}(hp:p<R.T.length)(hlv:V.tv=.slice (some ⟨g,0,none⟩) R.T.length cap)(j:Nat)(hj:j<6)(v:Value)(t:ej)(hv:t.vals=R.T[p].vals.set j v):
 aj (w.setCell ⟨g,p*6+j,none⟩ v) kb {R with T:=R.T.set p t} V:=by
 have hl:=h.t;rw [hlv] at hl;have h2:=eh hl (p*6+j) v;have hf:Fr w (w.setCell ⟨g,p*6+j,none⟩ v) (fun k=>k=g):=Fr.s1 _ _ _ _;have hgl:V.tv.ownBlock=some g:=by rw [hlv];rfl
 obtain ⟨cc,hc,hcc⟩:=h.blk;refine ⟨⟨cc,hf.same hc (fun e=>h.kt (by rw [hgl,e])),hcc⟩,hf.owns h.l (fun k hk e=>h.lt k hk (by rw [e];exact hgl)),hf.owns h.n (fun k hk e=>h.nt k hk (by rw [e];exact hgl)),?_,h.kl,h.kn,h.kt,h.ln,h.lt,h.nt⟩
 show World.ownsRow _ 0 112 6 V.tv (R.T.set p t).length (xz (R.T.set p t));rw [hlv,List.length_set];have e1:(xz R.T).set (p*6+j) v=xz (R.T.set p t):=lg ej.vals 6 ej.vals_len v t R.T p j hp hj hv;rw [e1] at h2;exact h2
theorem aa9 {x:Int}{f:ej->ej}{T:List ej}{p:Nat}(hp:p<T.length)(h:T.findIdx? (af x)=some p):setT x f T=T.set p (f T[p]):=by
 rw [List.findIdx?_eq_some_iff_getElem] at h;obtain ⟨_,h1,h2⟩:=h;have hs:T=T.take p++T[p] :: T.drop (p+1):=by rw [List.getElem_cons_drop];exact (List.take_append_drop p T).symm
 conv=>lhs;rw [hs]
 rw [al6 ?_ h1]
 ·rw [List.set_eq_take_append_cons_drop,if_pos hp]
 ·intro a ha;obtain ⟨i,hi,rfl⟩:=List.mem_iff_getElem.1 ha;have hi':i<p:=by simp at hi;omega
  simp only [List.getElem_take];simpa using h2 i hi'
def stand (st v g e:Int)(t:ej):ej:=⟨t.base,st,t.root,v,g,e⟩
theorem ax2 (S:RS)(V:ax)(kb:Nat)(b st v g e:Int)(w:World)(h:RD w kb S V)(hn:S.R.T.length<=900000)(hb:∃t∈S.R.T,t.base=b):
 Calls Tryz.prog 108 #[.pointer (some ⟨kb,0,none⟩),.int .i64 b,.int .i64 st,.int .i64 v,.int .i64 g,.int .i64 e] w fun e' w'=>e'=.returned (.tuple #[])/\RD w' kb {S with R:={S.R with T:=setT b (stand st v g e) S.R.T}} V/\Fr w w' (V.fp kb):=by
 obtain ⟨p,hp⟩:∃p,S.R.T.findIdx? (af b)=some p:=by
  cases hf:S.R.T.findIdx? (af b) with
  | some p=>exact ⟨p,rfl⟩
  | none=>
   obtain ⟨t,ht,e1⟩:=hb;rw [List.findIdx?_eq_none_iff] at hf;have:=hf t ht;simp [af,e1] at this
 have hpl:p<S.R.T.length:=by rw [List.findIdx?_eq_some_iff_getElem] at hp;exact hp.1
 have hth:=ek S.R.T kb V.tv b w (by omega) h.ref.ct h.ref.ltt;have hti:thI S.R.T b=p:=by unfold thI;rw [hp];rfl
 rw [hti] at hth;obtain ⟨A,cap,htv,hA⟩:=h.ref.ltt;obtain ⟨ga,rfl,hcells⟩:=hA (by omega);have hct:=h.ref.ct;rw [htv] at hct;have hgk:ga≠kb:=fun e1=>h.ref.kt (by rw [htv,<- e1];rfl)
 have c1:=hcells p hpl 1 _ rfl;have c3:=hcells p hpl 3 _ rfl;have c4:=hcells p hpl 4 _ rfl;have c5:=hcells p hpl 5 _ rfl;obtain ⟨cc,hblk⟩:∃cc:Array Value,w.heap[ga]?=some (.cells cc 112 (0,0)):=by
  rcases h.ref.t.2 with ⟨e0,_⟩ | ⟨g',cap',cur,e0,_,hg,_⟩
  ·rw [e0] at htv;cases htv
  ·rw [e0] at htv;cases htv;exact ⟨_,hg⟩
 have zg:∀o,w.frozen? ⟨ga,o,none⟩=false:=fun o=>ab hblk
 -- the four stores
 have h1:=h.ref.setField hpl htv 1 (by omega) (.int .i64 st) {S.R.T[p] with state:=st} rfl;have h2:=h1.setField (p:=p) (by simpa using hpl) (by rw [List.length_set];exact htv) 3 (by omega) (.int .i64 v) {S.R.T[p] with state:=st,value:=v} (by simp [ej.vals]);have h3:=h2.setField (p:=p) (by simpa using hpl) (by rw [List.length_set,List.length_set];exact htv) 4 (by omega) (.int .i64 g) {S.R.T[p] with state:=st,value:=v,badge:=g} (by simp [ej.vals]);have h4:=h3.setField (p:=p) (by simpa using hpl) (by rw [List.length_set,List.length_set,List.length_set];exact htv) 5 (by omega) (.int .i64 e) (stand st v g e S.R.T[p]) (by simp [ej.vals,stand]);simp only [List.set_set] at h4;rw [<- aa9 hpl hp (f:=stand st v g e)] at h4;have hfG:Fr w ((((w.setCell ⟨ga,p*6+1,none⟩ (.int .i64 st)).setCell ⟨ga,p*6+3,none⟩ (.int .i64 v)).setCell ⟨ga,p*6+4,none⟩ (.int .i64 g)).setCell ⟨ga,p*6+5,none⟩ (.int .i64 e)) (fun k=>k=ga):=
  (((Fr.s1 _ _ _ _).setCell (.inl rfl) _ _).setCell (.inl rfl) _ _).setCell (.inl rfl) _ _
 have hgf:V.fp kb ga:=.inr (.inr (.inr (by rw [htv];rfl)));have hR:RD ((((w.setCell ⟨ga,p*6+1,none⟩ (.int .i64 st)).setCell ⟨ga,p*6+3,none⟩ (.int .i64 v)).setCell ⟨ga,p*6+4,none⟩ (.int .i64 g)).setCell ⟨ga,p*6+5,none⟩ (.int .i64 e)) kb {S with R:={S.R with T:=setT b (stand st v g e) S.R.T}} V:=
  ⟨h4,h.ws,hfG.owns h.d (fun k hk e1=>h.dk k hk (by rw [e1];exact hgf)),h.dk,hfG.owns h.q (fun k hk e1=>(h.qk k hk).1 (by rw [e1];exact hgf)),h.qk⟩
 have HR:Hid (RD ((((w.setCell ⟨ga,p*6+1,none⟩ (.int .i64 st)).setCell ⟨ga,p*6+3,none⟩ (.int .i64 v)).setCell ⟨ga,p*6+4,none⟩ (.int .i64 g)).setCell ⟨ga,p*6+5,none⟩ (.int .i64 e)) kb {S with R:={S.R with T:=setT b (stand st v g e) S.R.T}} V):=hR;have hpi:(p:Int)<S.R.T.length:=by omega
 clear hR h1 h2 h3 h4 hA hp hti;go_enter Tryz.func108,Tryz.ntmps108
 go_wp2_with ((go_at_call 78;refine hth.mono ?_;rintro e' W1 ⟨rfl,rfl⟩))
 go_end0;exact ⟨rfl,HR.out,hfG.mono (fun k (e1:k=ga)=>(by rw [e1];exact hgf:V.fp kb k))⟩
def tk (w:World)(kb:Nat)(V:ax)(y:Int×RS)(e':Ending)(w':World):Prop:=
 e'=.returned (.int .i64 y.1)/\∃V',fh w kb V y.2 V' w'
theorem aj.setWord {w:World}{kb:Nat}{R:dq}{V:ax}(h:aj w kb R V){i:Nat}(hi:i<1024)(v:Int):
 aj (w.setCell ⟨kb,i+1,none⟩ (.int .i64 v)) kb R {V with ws:=fun k=>if k=i then v else V.ws k}:=by
 have hf:Fr w (w.setCell ⟨kb,i+1,none⟩ (.int .i64 v)) (fun k=>k=kb):=Fr.s1 _ _ _ _;obtain ⟨c,hc,hcc⟩:=h.blk;refine ⟨⟨_,ak w kb (i+1) _ hc,?_⟩,hf.owns h.l (fun k hk e=>h.kl (e▸hk)),hf.owns h.n (fun k hk e=>h.kn (e▸hk)),hf.owns h.t (fun k hk e=>h.kt (e▸hk)),h.kl,h.kn,h.kt,h.ln,h.lt,h.nt⟩
 obtain ⟨c0,c1,c2,c3,c4,c5,c6,c7,c8⟩:=hcc;refine ⟨by simpa using c0,?_,?_,?_,?_,?_,?_,?_,?_⟩
 ·rw [Array.getElem?_setIfInBounds_ne (by omega)];exact c1
 ·intro k hk;by_cases e:k=i
  ·subst e;rw [Array.getElem?_setIfInBounds_self_of_lt (by omega)];simp
  ·rw [Array.getElem?_setIfInBounds_ne (by omega)];simp only [if_neg e];exact c2 k hk
 all_goals (rw [Array.getElem?_setIfInBounds_ne (by omega)];assumption)
def QIn (S:RS):Prop:=S.q.length<=900000/\∀x∈S.q,∃t∈S.R.T,t.base=x.thread
def gv (b:Int)(S:RS)(k:Nat):RS:={S with R:={S.R with T:=((S.q.take k).foldl (jc b) (S.R.T,S.q)).1},q:=((S.q.take k).foldl (jc b) (S.R.T,S.q)).2}
theorem ay9 {b:Int}{S:RS}{k:Nat}(hk:k<S.q.length)(h:S.q[k].endp≠b):gv b S (k+1)=gv b S k:=by
 unfold gv;rw [List.take_succ_eq_append_getElem hk,List.foldl_append];simp only [List.foldl_cons,List.foldl_nil];have:∀x,jc b x S.q[k]=x:=fun x=>by unfold jc;rw [if_neg h]
 rw [this]
theorem a51 {b:Int}{S:RS}{k:Nat}(hk:k<S.q.length)(h:S.q[k].endp=b):
 gv b S (k+1)={gv b S k with R:={(gv b S k).R with T:=setT S.q[k].thread (stand 1 0 0 9) (gv b S k).R.T},q:=k_ S.q[k].thread (gv b S k).q}:=by
 unfold gv;rw [List.take_succ_eq_append_getElem hk,List.foldl_append];simp only [List.foldl_cons,List.foldl_nil];have:∀x,jc b x S.q[k]=(setT S.q[k].thread a33 x.1,k_ S.q[k].thread x.2):=fun x=>by unfold jc;rw [if_pos h]
 rw [this];rfl
theorem bb6 (b bits:Int)(S:RS):gv b S S.q.length=jd S 3 b bits:=by
 unfold gv jd;rw [List.take_length,if_neg (by omega),if_pos rfl]
theorem bd8 (b:Int)(S:RS)(k:Nat):(gv b S k).R.T.length=S.R.T.length/\(gv b S k).q.length<=S.q.length/\∀y,(∃t∈S.R.T,t.base=y)->∃t∈(gv b S k).R.T,t.base=y:=by
 have h1:=xo b (S.q.take k) (S.R.T,S.q);refine ⟨?_,?_,fun y ⟨t,ht,e⟩=>?_⟩
 ·have:=congrArg List.length h1;rw [List.length_map,List.length_map] at this;exact this
 ·obtain ⟨p,hp⟩:=wq b (S.q.take k) (S.R.T,S.q);show ((S.q.take k).foldl (jc b) (S.R.T,S.q)).2.length<=_;rw [hp];exact List.length_filter_le _ _
 ·have h2:y∈((S.q.take k).foldl (jc b) (S.R.T,S.q)).1.map ej.base:=by rw [h1];exact List.mem_map.2 ⟨t,ht,e⟩
  exact List.mem_map.1 h2
theorem fh.drewN {w w':World}{kb:Nat}{V V':ax}{S:RS}(h:fh w kb V S V' w')(q:Nat):fh w kb V S V' (w'.drewN q):=
 ⟨h.rd.frame ((Fr.refl _ (fun _=>False)).drewN q) (fun _ _=>id),h.fr.drewN q,h.new⟩
theorem bx_ (S:RS)(V:ax)(kb:Nat)(b bits r g m:Int)(w:World)(h:RD w kb S V)(hnT:S.R.T.length<=900000)(hq:QIn S):
 Calls Tryz.prog 115 #[.pointer (some ⟨kb,0,none⟩),r8 3 b bits r g m] w fun e' w'=>e'=.returned (.tuple #[])/\∃qv,fh w kb V (jd S 3 b bits) {V with qv:=qv} w':=by
 obtain ⟨hnq,hth⟩:=hq;have hcq:=h.ref.cq;have hklt:kb<w.heap.size:=World.block_lt_of_cell? w _ hcq;obtain ⟨A,cap,hqv,hA⟩:=bm xh h.q;rw [hqv] at hcq;have hqk:=h.qk;have HG:Hid (gv b S S.q.length=jd S 3 b bits):=bb6 b bits S;unfold r8;have hbox:(w.alloc (Obj.cells #[.int .i64 3,.int .i64 b,.int .i64 bits,.int .i64 r,.int .i64 g,.int .i64 m] 46)).heap[w.heap.size]?=some (Obj.cells #[.int .i64 3,.int .i64 b,.int .i64 bits,.int .i64 r,.int .i64 g,.int .i64 m] 46):=heap_alloc_new _ _;have hfa:Fr w (w.alloc (Obj.cells #[.int .i64 3,.int .i64 b,.int .i64 bits,.int .i64 r,.int .i64 g,.int .i64 m] 46)) (fun _=>False):=(Fr.refl _ _).alloc _;have hcq1:=hfa.cell hcq id;go_enter Tryz.func115,Tryz.ntmps115
 go_wp2;generalize (w.alloc (Obj.cells #[.int .i64 3,.int .i64 b,.int .i64 bits,.int .i64 r,.int .i64 g,.int .i64 m] 46))=w1 at hbox hfa hcq1 ⊢;have hs1:w.heap.size<w1.heap.size:=(Array.getElem?_eq_some_iff.1 hbox).1;have h1:RD w1 kb S V:=h.frame hfa (fun _ _=>id);go_loopw [8] (fun i w'=>∃(k:Nat) (qv:Value),i=.int .i64 k/\k<=S.q.length/\fh w kb V (gv b S k) {V with qv:=qv} w'/\Fr w1 w' (V.fp kb)) (fun i _=>S.q.length-(intOf i).toNat)
 case atStart=>exact ⟨0,V.qv,rfl,by omega,⟨h1,hfa.mono (fun _=>False.elim),fun k hk=>.inl hk⟩,Fr.refl _ _⟩
 case round=>
  obtain ⟨k,qv,rfl,hk,hO,hfr⟩:=hrel;have hbr:=hfr.same hbox (fun e=>by have:=h.ref.fpLt e;omega);have hc1:=aa (o:=1) hbr rfl;have hbs:=World.block_lt_of_cell? _ _ hc1;obtain ⟨hl1,hl2,hl3⟩:=bd8 b S k;by_cases hlt:k<S.q.length
  ·obtain ⟨ga,rfl,hcells⟩:=hA (by omega);have hga:¬V.fp kb ga:=(hqk ga (by rw [hqv];rfl)).1;have q0:=hfr.cell (hfa.cell (hcells k hlt 0 _ rfl) id) hga;have q1:=hfr.cell (hfa.cell (hcells k hlt 1 _ rfl) id) hga;simp only [Nat.add_zero] at q0;have hgr:ga<wr.heap.size:=World.block_lt_of_cell? _ _ q0;by_cases hb:S.q[k].endp=b
   ·have hb':(S.q[k].endp==b)=true:=by simpa using hb
    have HT:Hid (gv b S (k+1)={gv b S k with R:={(gv b S k).R with T:=setT S.q[k].thread (stand 1 0 0 9) (gv b S k).R.T},q:=k_ S.q[k].thread (gv b S k).q}):=a51 hlt hb;clear hb;go_wp2;go_quiet (fail)
    have hO1:=hO.drewN nq;have hf1:Fr w1 (wr.drewN nq) (V.fp kb):=hfr.drewN nq;have q1':(wr.drewN nq).cell? ⟨ga,k*5+1,none⟩=_:=q1;have hgr':ga<(wr.drewN nq).heap.size:=hgr;generalize wr.drewN nq=W2 at *
    go_wp2_with (first
     |(go_at_call 108;go_must (refine (ax2 (gv b S k) _ kb S.q[k].thread 1 0 0 9 _ hO1.rd (by omega) (hl3 _ (hth _ (List.getElem_mem hlt)))).mono ?_);rintro e W3 ⟨rfl,h3,hf3⟩
       have q3:=hf3.cell q1' hga;have hg3:ga<W3.heap.size:=World.block_lt_of_cell? _ _ q3)
     |(go_at_call 109;go_must (refine (ss _ _ kb S.q[k].thread _ h3 (by show (gv b S k).q.length<=_;omega)).mono ?_);rintro e W4 ⟨rfl,qv4,hO4,hf4⟩))
    go_roundw;case rel=>
     refine ⟨k+1,qv4,by go_num,by omega,?_,(hf1.step hf3 (fun _ hk=>.inl hk)).step hf4 (fun _ hk=>.inl hk)⟩;rw [HT.out];exact (hO1.trans ⟨h3,hf3.mono (fun _ hk=>.inl hk),fun _ hk=>.inl hk⟩).trans hO4
    case measure=>simp [intOf];omega
   ·have hb':(S.q[k].endp==b)=false:=by simpa using hb
    have HT:Hid (gv b S (k+1)=gv b S k):=ay9 hlt hb;clear hb;go_wp2;go_quiet (fail)
    go_wp2;go_roundw;case rel=>exact ⟨k+1,qv,by go_num,by omega,by rw [HT.out];exact hO.drewN _,hfr.drewN _⟩
    case measure=>simp [intOf];omega
  ·obtain rfl:k=S.q.length:=by omega
   rw [HG.out] at hO;go_wp2;go_end0;exact ⟨rfl,qv,hO⟩
end Go.Proofs.YtdpjgflemddekaaGreatDoor
