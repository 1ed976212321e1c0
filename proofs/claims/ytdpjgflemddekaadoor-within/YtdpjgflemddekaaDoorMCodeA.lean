/- The code: tree.add. -/
import Derived.Test.YtdpjgflemddekaaDoorMKeyA
import Derived.Deep.RegionHeld3
import Derived.Laws.EntriesVeiled
set_option maxRecDepth 100000
set_option maxHeartbeats 1000000
namespace Go.Proofs.YtdpjgflemddekaaDoor
open Go.RowKit
theorem nj:(Tryd.prog.info? 72).map (fun i=>(i.zero,i.size,i.bytes))=some (some (.agg #[.int .i64 0,.int .i64 0]),2,16):=by kernel_rfl
theorem j_ (w:World):(zeroValue 102).run Tryd.prog w=.ok (.agg #[.int .i64 0,.int .i64 0,.slice none 0 0]) w:=by kernel_rfl
theorem ed {w:World}{b t s n:Nat}{v:Value}{xs:List Value}(h:w.ownsRow b t s v n xs):∃A cap,v=.slice A n cap:=by
 rcases h.2 with ⟨h0,h1⟩ | ⟨g,cap,cur,hv,_⟩
 ·subst h1;exact ⟨none,0,h0⟩
 ·exact ⟨_,cap,hv⟩
theorem b14 (M:List (Slot×bx))(tb:Nat)(t p:Slot)(w:World)(h:bu w tb M)(hl:∀x,aq p M=some x->x.kids.length<1000000):
 Calls Tryd.prog 40 #[.map (some tb),.agg #[.int .i64 t.node,.int .i64 t.index],.agg #[.int .i64 p.node,.int .i64 p.index]] w fun e w'=>e=.returned (.tuple #[])/\
  ∃M',bu w' tb M'/\dc M'=addS (dc M) t p/\Fr w w' (cm tb M)/\(∀k,cm tb M' k->cm tb M k\/w.heap.size<=k):=by
 have hlt:=h.map.lt;obtain ⟨i0,hi0,hz0,hz1,hz2⟩:=info_parts nj;go_enter Tryd.func40,Tryd.ntmps40
 go_wp2_with (at_mapUpdate;go_must (refine lc _ rfl _ _ _ 63 rfl ep Tryd.underlying63 (m:=M) (enc:=bx.val) rfl ?_ t rfl ⟨p,[],.slice none 0 0⟩ rfl ?_))
 ·exact h.map.frame (((Fr.refl w (fun _=>False)).alloc _).alloc _) (by simp)
 generalize hW0:(w.alloc _).alloc _=W0;have hf0:Fr w W0 (fun _=>False):=by rw [<- hW0];exact ((Fr.refl _ _).alloc _).alloc _
 have hs0:W0.heap.size=w.heap.size+2:=by rw [<- hW0];simp
 have hbt:W0.heap[w.heap.size]?=some (.cells #[.int .i64 t.node,.int .i64 t.index] 72 (0,0)):=by
  rw [<- hW0,heap_alloc_old _ _ (by simp)];exact heap_alloc_new _ _
 have hbp:W0.heap[w.heap.size+1]?=some (.cells #[.int .i64 p.node,.int .i64 p.index] 72 (0,0)):=by
  rw [<- hW0];have:=heap_alloc_new (w.alloc (.cells #[.int .i64 t.node,.int .i64 t.index] 72)) (.cells #[.int .i64 p.node,.int .i64 p.index] 72);simpa using this
 clear hW0;intro W1 hm1 hf1 hs1;have h0:bu W0 tb M:=h.frame hf0 (fun _ _=>id);have h1:bu W1 tb (putM t ⟨p,[],.slice none 0 0⟩ M):=bu.put hm1 hf1 (fun s y hy _=>h0.rest s y hy) h0.apart (World.ownsRow_nil _ _ _ _) (by simp) (fun _ _ _ _ k hk=>by cases hk) (by simp [Value.ownBlock]);have hbt1:=hf1.same hbt (by omega);have hbp1:=hf1.same hbp (by omega);have hst1:dc (putM t ⟨p,[],.slice none 0 0⟩ M)=upd (dc M) t (some ⟨p,[]⟩):=qn _ _ _;have hlen1:∀x,aq p (putM t ⟨p,[],.slice none 0 0⟩ M)=some x->x.kids.length<1000000:=by
  intro x hx;rw [gz] at hx;split at hx
  ·cases hx;simp
  ·exact hl x hx
 have hfp1:∀k,cm tb (putM t ⟨p,[],.slice none 0 0⟩ M) k->cm tb M k:=by
  rintro k (rfl | ⟨s,x,hx,hk⟩)
  ·exact .inl rfl
  ·rw [gz] at hx;split at hx
   ·cases hx;cases hk
   ·exact .inr ⟨s,x,hx,hk⟩
 generalize putM t ⟨p,[],.slice none 0 0⟩ M=M1 at hm1 h1 hst1 hlen1 hfp1;have hF1:Fr w W1 (cm tb M):=(hf0.mono (fun _=>False.elim)).step hf1 (fun k hk=>.inl (.inl hk))
 have hsz1:W1.heap.size=w.heap.size+2:=by omega
 obtain ⟨x,hx,hxo,hxl,hxa,hxb,hxk⟩:∃x:bx,io bx.val (.agg #[.int .i64 0,.int .i64 0,.slice none 0 0]) (aq p M1)=x.val/\W1.ownsRow 0 72 2 x.sv x.kids.length (b_ x.kids)/\x.kids.length<1000000/\
  (∀s y,aq s M1=some y->s≠p->∀k,x.sv.ownBlock=some k->y.sv.ownBlock≠some k)/\(∀k,x.sv.ownBlock=some k->cm tb M1 k/\k≠tb)/\(dc M1 p).getD ⟨⟨0,0⟩,[]⟩=x.std:=by
  cases hlk:aq p M1 with
  | none=>exact ⟨⟨⟨0,0⟩,[],.slice none 0 0⟩,rfl,World.ownsRow_nil _ _ _ _,by simp,(fun _ _ _ _ k hk=>by cases hk),(fun k hk=>by cases hk),by simp [dc,hlk,bx.std]⟩
  | some x=>exact ⟨x,rfl,h1.own p x hlk,hlen1 x hlk,fun s y hy hne=>h1.apart p x s y hlk hy (Ne.symm hne),fun k hk=>⟨.inr ⟨p,x,hlk,hk⟩,fun e=>h1.ne hlk (e▸hk)⟩,by simp [dc,hlk]⟩
 have p0:=aa (o:=0) hbp1 rfl;have p1:=aa (o:=1) hbp1 rfl;have t0:=aa (o:=0) hbt1 rfl;have t1:=aa (o:=1) hbt1 rfl;obtain ⟨xp,xk,xs⟩:=x;simp only [bx.val] at hx;dsimp only at hxo hxl hxa hxb hxk;clear hbt hbp hf0 hf1 hs0 hs1 h0 hlen1 hm1;obtain ⟨A,cap,rfl⟩:=ed hxo;go_wp2_with (first
  |(at_lookup;go_must (refine ii _ rfl _ _ 63 false rfl ep Tryd.underlying63 (j_ _) (m:=M1) (enc:=bx.val) rfl h1.map p rfl ?_);simp only [Bool.false_eq_true,if_false];rw [hx])
  |(at_builtin;go_must (refine wpList_append_lies _ rfl _ _ 100 rfl 0 72 i0 _ 2 16 Tryd.underlying100 hi0 hz0 hz1 hz2 rfl (by decide) (.slice A xk.length cap) xk.length (b_ xk) rfl ((hxo.alloc _).alloc _) ⟨_,0,none⟩ 1 1 [.int .i64 t.node,.int .i64 t.index] rfl rfl (bi0 _ _ _ _ (by simp [hsz1])) (Slot.one t) (by decide) (by unfold maxLen;omega) (by omega) (Nat.zero_le _) (w.heap.size+4) (by simp [hsz1]) ?_)))
 intro g gc W3 hown3 hg3 hat3 hlt3;generalize hW2:(W1.alloc _).alloc _=W2 at hg3;have hf2:Fr W1 W2 (fun _=>False):=by rw [<- hW2];exact ((Fr.refl _ _).alloc _).alloc _
 have hs2:W2.heap.size=w.heap.size+4:=by rw [<- hW2];simp [hsz1]
 have hb2:W2.heap[w.heap.size+2]?=some (.cells #[.int .i64 xp.node,.int .i64 xp.index,.slice A xk.length cap] 102 (0,0)):=by
  rw [<- hW2,heap_alloc_old _ _ (by simp;omega),<- hsz1];exact heap_alloc_new _ _
 clear hW2;have hxlt:∀k,(Value.slice A xk.length cap).ownBlock=some k->k<w.heap.size:=fun k hk=>h.fpLt (hfp1 k (hxb k hk).1)
 have hb3:W3.heap[w.heap.size+2]?=some (.cells #[.int .i64 xp.node,.int .i64 xp.index,.slice A xk.length cap] 102 (0,0)):=by
  rw [hg3.block _ (by omega) (fun e=>by have:=hxlt _ e.symm;omega)];exact hb2
 have hf3:Fr W1 W3 (fun k=>(Value.slice A xk.length cap).ownBlock=some k):=(hf2.mono (fun _=>False.elim)).grown hg3 (fun k hk=>.inl hk)
 have hpn:¬(Value.slice A xk.length cap).ownBlock=some (w.heap.size+1):=fun e=>by have:=hxlt _ e;omega
 have p0':=aa (o:=0) (hf3.same hbp1 hpn) rfl;have p1':=aa (o:=1) (hf3.same hbp1 hpn) rfl;have k0:=aa (o:=0) hb3 rfl;have k1:=aa (o:=1) hb3 rfl;have k2:=aa (o:=2) hb3 rfl;have z2:W3.frozen? ⟨w.heap.size+2,2,none⟩=false:=ae hb3;clear p0 p1 t0 t1 hg3;go_wp2_with (at_mapUpdate;go_must (refine lc _ rfl _ _ _ 63 rfl ep Tryd.underlying63 (m:=M1) (enc:=bx.val) rfl ?_ p rfl ⟨xp,xk++[t],.slice (some ⟨g,0,none⟩) (xk.length+1) gc⟩ rfl ?_))
 ·exact (h1.map.frame hf3 (fun e=>(hxb _ e).2 rfl)).frame (Fr.set1 _ _ _ _) (by omega)
 generalize hW4:W3.setCell _ _=W4;have hf4:Fr W3 W4 (fun k=>k=w.heap.size+2):=by rw [<- hW4];exact Fr.set1 _ _ _ _
 clear hW4;intro W5 hm5 hf5 hs5;have hg5:(Value.slice (some ⟨g,0,none⟩) (xk.length+1) gc).ownBlock=some g:=rfl;have hgn:g≠w.heap.size+2:=by
  rcases hat3 with e | e
  ·have:=hxlt _ e;omega
  ·omega
 have hgt:g≠tb:=by
  rcases hat3 with e | e
  ·exact (hxb _ e).2
  ·omega
 have h5:bu W5 tb (putM p ⟨xp,xk++[t],.slice (some ⟨g,0,none⟩) (xk.length+1) gc⟩ M1):=by
  refine bu.put hm5 hf5 ?_ h1.apart ?_ (by simp;omega) ?_ ?_
  ·intro s y hy hne;refine ⟨hf4.owns (hf3.owns (h1.own s y hy) (fun k hk e=>hxa s y hy hne k e hk)) (fun k hk e=>?_),h1.len s y hy,h1.ne hy⟩;have:=h.fpLt (hfp1 k (.inr ⟨s,y,hy,hk⟩));omega
  ·have:=hf4.owns hown3 (fun k hk e=>by rw [hg5] at hk;cases hk;exact hgn e);rw [fk];simpa [b_,Slot.vals] using this
  ·intro s y hy hne k hk;rw [hg5] at hk;cases hk
   rcases hat3 with e | e
   ·exact hxa s y hy hne _ e
   ·intro e2;have:=h.fpLt (hfp1 _ (.inr ⟨s,y,hy,e2⟩));omega
  ·rw [hg5];exact fun e=>hgt (by cases e;rfl)
 have hF:Fr w W5 (cm tb M):=by
  refine ((hF1.step hf3 (fun k hk=>.inl (hfp1 k (hxb k hk).1))).step hf4 (fun k hk=>.inr (by omega))).step hf5 (fun k hk=>.inl (.inl hk))
 have hst:dc (putM p ⟨xp,xk++[t],.slice (some ⟨g,0,none⟩) (xk.length+1) gc⟩ M1)=addS (dc M) t p:=by
  rw [qn,hst1];rw [hst1] at hxk;simp only [addS];rw [hxk];rfl
 have hfp:∀k,cm tb (putM p ⟨xp,xk++[t],.slice (some ⟨g,0,none⟩) (xk.length+1) gc⟩ M1) k->cm tb M k\/w.heap.size<=k:=by
  rintro k (rfl | ⟨s,x,hx,hk⟩)
  ·exact .inl (.inl rfl)
  ·rw [gz] at hx;split at hx
   ·cases hx
    rw [hg5] at hk;cases hk
    rcases hat3 with e | e
    ·exact .inl (hfp1 _ (hxb _ e).1)
    ·exact .inr (by omega)
   ·exact .inl (hfp1 k (.inr ⟨s,x,hx,hk⟩))
 generalize putM p ⟨xp,xk++[t],.slice (some ⟨g,0,none⟩) (xk.length+1) gc⟩ M1=M5 at hm5 h5 hst hfp;clear hm5 hf5 hs5 hf4 hf3 k0 k1 k2 p0' p1' z2 hb3 hx hxo hxa hxb hxk hown3;go_wp2;go_end0;exact ⟨rfl,M5,h5,hst,hF,hfp⟩
theorem ag0 {w w':World}{S:Nat->Prop}(hf:Fr w.drew w' S){b:Nat}{x y:Value}{t:TypeId}(hb:w.heap[b]?=some (.cells #[x,y] t (0,0)))(hn:¬S b):w'.cell? ⟨b,0,none⟩=some x/\w'.cell? ⟨b,1,none⟩=some y:=
 ⟨aa (o:=0) (hf.same (w:=w.drew) hb hn) rfl,aa (o:=1) (hf.same (w:=w.drew) hb hn) rfl⟩
theorem pq (V:aj)(kb:Nat)(t p:Slot)(c:KCap)(w:World)(h:aw w kb V)(hl:∀x,aq p V.M=some x->x.kids.length<1000000):
 Calls Tryd.prog 25 #[.pointer (some ⟨kb,0,none⟩),.agg #[.int .i64 t.node,.int .i64 t.index],c.val,.agg #[.int .i64 p.node,.int .i64 p.index]] w fun e w'=>e=.returned (.tuple #[])/\je w kb V (V.ker.lay t c p) w':=by
 have hch:=h.ch;have hct:=h.ct;have hklt:kb<w.heap.size:=World.block_lt_of_cell? w _ hch;go_enter Tryd.func25,Tryd.ntmps25
 go_wp2_with fail
 generalize hW0:(w.alloc _).alloc _=W0;have hf0:Fr w W0 (fun _=>False):=by rw [<- hW0];exact ((Fr.refl _ _).alloc _).alloc _
 have hs0:W0.heap.size=w.heap.size+2:=by rw [<- hW0];simp
 have hbt:W0.heap[w.heap.size]?=some (.cells #[.int .i64 t.node,.int .i64 t.index] 72 (0,0)):=by
  rw [<- hW0,heap_alloc_old _ _ (by simp)];exact heap_alloc_new _ _
 have hbp:W0.heap[w.heap.size+1]?=some (.cells #[.int .i64 p.node,.int .i64 p.index] 72 (0,0)):=by
  rw [<- hW0];have:=heap_alloc_new (w.alloc (.cells #[.int .i64 t.node,.int .i64 t.index] 72)) (.cells #[.int .i64 p.node,.int .i64 p.index] 72);simpa using this
 clear hW0;have h0:aw W0 kb V:=h.frame hf0 (fun _ _=>id);have hd:Fr W0 W0.drew (fun _=>False):=(Fr.refl _ _).drew;obtain ⟨W1,hrun,hm1,hf1,hs1⟩:=(h0.frame hd (fun _ _=>id)).held.put_run ep Tryd.underlying61 t c;simp only [Slot.val] at hrun;have h1:aw W1 kb {V with H:=putM t c V.H}:=(h0.frame hd (fun _ _=>id)).putH hm1 hf1;have hb1:=hf1.same (hd.same hbt id) (fun e=>by have:=h.held.lt;omega);have hb2:=hf1.same (hd.same hbp id) (fun e=>by have:=h.held.lt;omega);have c0:=h0.ch;have t0:=aa (o:=0) hbt rfl;have t1:=aa (o:=1) hbt rfl;have c1':=h1.ch;have u0:=aa (o:=0) hb1 rfl;have u1:=aa (o:=1) hb1 rfl;go_region_held3 (fun w'=>w'.cell? ⟨kb,1024,none⟩=some (.map (some V.hb))/\w'.cell? ⟨w.heap.size,0,none⟩=some (.int .i64 t.node)/\w'.cell? ⟨w.heap.size,1,none⟩=some (.int .i64 t.index)) (go_keep) (fail)
 clear c0 t0 t1 c1' hrun;have hF1:Fr w W1 (V.fp kb):=((hf0.step hd (fun _=>False.elim)).mono (fun _=>False.elim)).step hf1 (fun k hk=>.inl (.inr (.inl hk)))
 have hsz1:W1.heap.size=w.heap.size+2:=by simp at hs1;omega
 have c1:=h1.ct;have p0:=aa (o:=0) hb2 rfl;have p1:=aa (o:=1) hb2 rfl;have hd1:Fr W1 W1.drew (fun _=>False):=(Fr.refl _ _).drew;have h2:=h1.frame hd1 (fun _ _=>id);have no:∀k,w.heap.size<=k->¬cm V.tb V.M k:=fun k hk hk2=>by have:=h.tree.fpLt hk2;omega
 go_wp2_with fail
 go_region_held3 (fun w'=>w'.cell? ⟨kb,1025,none⟩=some (.map (some V.tb))/\w'.cell? ⟨w.heap.size,0,none⟩=some (.int .i64 t.node)/\w'.cell? ⟨w.heap.size,1,none⟩=some (.int .i64 t.index)/\w'.cell? ⟨w.heap.size+1,0,none⟩=some (.int .i64 p.node)/\w'.cell? ⟨w.heap.size+1,1,none⟩=some (.int .i64 p.index)) (go_keep)
  ((go_at_call 40;refine (b14 V.M V.tb t p _ h2.tree hl).mono ?_;rintro e W3 ⟨rfl,M',hM,hst,hfM,hrM⟩;have h3:=h2.putM hM hfM hrM;have c3:=h3.ct;obtain ⟨g1,g2⟩:=ag0 hfM hb1 (no _ (Nat.le_refl _));obtain ⟨g3,g4⟩:=ag0 hfM hb2 (no _ (Nat.le_succ _))))
 have hF:Fr w W3 (V.fp kb):=(hF1.step hd1 (fun _=>False.elim)).step hfM (fun k hk=>.inl (.inr (.inr (.inr (.inr (.inr (.inl hk)))))))
 have hK:aj.ker {V with H:=putM t c V.H,M:=M'}=V.ker.lay t c p:=by
  simp only [aj.ker,a_.lay,ji,hst]
 have hfp:∀k,aj.fp kb {V with H:=putM t c V.H,M:=M'} k->V.fp kb k\/w.heap.size<=k:=by
  rintro k (e | e | e | e | e | e | e)
  ·exact .inl (.inl e)
  ·exact .inl (.inr (.inl e))
  ·exact .inl (.inr (.inr (.inl e)))
  ·exact .inl (.inr (.inr (.inr (.inl e))))
  ·exact .inl (.inr (.inr (.inr (.inr (.inl e)))))
  ·rcases hrM k e with e2 | e2
   ·exact .inl (.inr (.inr (.inr (.inr (.inr (.inl e2))))))
   ·exact .inr (by simp at e2;omega)
  ·exact .inl (.inr (.inr (.inr (.inr (.inr (.inr e))))))
 clear c1 c3 g1 g2 g3 g4 p0 p1 u0 u1 hM hst hfM hrM;go_wp2;go_end0;exact ⟨rfl,_,h3,hK,rfl,hF,hfp⟩
theorem bh0 (m:Nat)(h:m<=20):wrap64 (2 ^ m)=pw m:=by
 have h1:=gy m;have h2:=vi m h;have h3:(2:Int) ^ m=pw m:=by unfold pw;rw [Int.natCast_pow];rfl
 rw [h3];unfold wrap64;omega
theorem b41 (w:World):(Instr.makeChan 115 (.int .i64 64)).run Tryd.prog w=.ok (.chan (some w.heap.size)) (w.alloc (.chan 64 #[] false 0 0 false)):=by kernel_rfl
theorem vj (b n:Int)(w:World)(h0:0<=n)(h1:n<=20):
 Calls Tryd.prog 59 #[.agg #[.int .i64 b,.int .i64 n]] w fun e w'=>e=.returned (.int .i64 (pw n.toNat))/\Fr w w' (fun _=>False):=by
 obtain ⟨m,rfl⟩:=Int.eq_ofNat_of_zero_le h0;have hw:=bh0 m (by omega);go_enter Tryd.func59,Tryd.ntmps59
 go_wp2;go_ret;exact ⟨by rw [hw,Int.toNat_natCast];rfl,(Fr.refl _ _).alloc _⟩
theorem bm4 (b n r:Int)(w:World)(h0:0<=n)(h1:n<=20):
 Calls Tryd.prog 41 #[.agg #[.int .i64 b,.int .i64 n,.int .i64 r]] w fun e w'=>e=.returned (.int .i64 (pw n.toNat / 4))/\Fr w w' (fun _=>False):=by
 have hp:=gy n.toNat;have hq:=vi n.toNat (by omega);go_enter Tryd.func41,Tryd.ntmps41
 go_wp2_with fail
 refine (vj b n _ h0 h1).mono ?_;rintro e w1 ⟨rfl,hf⟩;have hf1:=((Fr.refl w (fun _=>False)).alloc (.cells #[.int .i64 b,.int .i64 n,.int .i64 r] 111)).step hf (fun _=>False.elim);go_wp2;go_ret;exact ⟨rfl,hf1⟩
theorem av9 (w:World)(a b c:Obj):(((w.alloc a).alloc b).alloc c).drew.heap[w.heap.size+1]?=some b/\(((w.alloc a).alloc b).alloc c).drew.heap[w.heap.size+1+1]?=some c:=by
 have s1:(w.alloc a).heap.size=w.heap.size+1:=by simp
 have s2:((w.alloc a).alloc b).heap.size=w.heap.size+1+1:=by simp
 refine ⟨?_,?_⟩
 ·show (((w.alloc a).alloc b).alloc c).heap[w.heap.size+1]?=some b;rw [heap_alloc_old _ _ (by omega),<- s1];exact heap_alloc_new _ _
 ·show (((w.alloc a).alloc b).alloc c).heap[w.heap.size+1+1]?=some c;rw [<- s2];exact heap_alloc_new _ _
theorem bt2 (w:World):
 Calls Tryd.prog 42 #[] w fun e w'=>(∃q,e=.returned (oh q)/\q.1≠q.2/\w.heap.size<=q.1/\w.heap.size<=q.2/\l5 w' q.1 []/\l5 w' q.2 [])/\Fr w w' (fun _=>False):=by
 have hmk:=b41;go_enter Tryd.func42,Tryd.ntmps42
 go_wp2;go_region
 all_goals (try go_wp2)
 ·refine bodyPost_ret (v:=oh (w.heap.size+1,w.heap.size+1+1)) (by simp [results,Tryd.results42,go_sem,oh]) rfl ⟨⟨_,rfl,by simp,by simp,by simp;omega,⟨0,0,?_⟩,⟨0,0,?_⟩⟩,((((Fr.refl _ _).alloc _).alloc _).alloc _).drew⟩
  ·exact (av9 _ _ _ _).1
  ·exact (av9 _ _ _ _).2
 ·refine bodyPost_ret (v:=oh (w.heap.size+1+1,w.heap.size+1)) (by simp [results,Tryd.results42,go_sem,oh]) rfl ⟨⟨_,rfl,by simp,by simp;omega,by simp,⟨0,0,?_⟩,⟨0,0,?_⟩⟩,((((Fr.refl _ _).alloc _).alloc _).alloc _).drew⟩
  ·exact (av9 _ _ _ _).2
  ·exact (av9 _ _ _ _).1
theorem am3 (ty b n:Int)(w:World):
 Calls Tryd.prog 27 #[.int .i64 ty,.agg #[.int .i64 b,.int .i64 n]] w fun e w'=>e=.returned (gn ty b n).val/\Fr w w' (fun _=>False):=by
 by_cases h1:ty=1
 ·subst h1;go_enter Tryd.func27,Tryd.ntmps27
  go_wp2;go_ret;exact ⟨rfl,(Fr.refl _ _).alloc _⟩
 by_cases h2:ty=2
 ·subst h2;go_enter Tryd.func27,Tryd.ntmps27
  go_wp2;go_ret;exact ⟨rfl,(Fr.refl _ _).alloc _⟩
 by_cases h3:ty=3
 ·subst h3;go_enter Tryd.func27,Tryd.ntmps27
  go_wp2;go_ret;exact ⟨rfl,(Fr.refl _ _).alloc _⟩
 by_cases h4:ty=4
 ·subst h4;go_enter Tryd.func27,Tryd.ntmps27
  go_wp2;go_ret;exact ⟨rfl,(Fr.refl _ _).alloc _⟩
 have hm:gn ty b n=.frame b n 7:=by simp [gn,h1,h2,h3,h4]
 go_enter Tryd.func27,Tryd.ntmps27
 go_wp2;go_ret;exact ⟨by rw [hm];rfl,(Fr.refl _ _).alloc _⟩
theorem iq (v:Value)(w:World):(Instr.typeAssert (.iface 77 v) 80 77 true).run Tryd.prog w=.ok (.tuple #[v,.bool true]) w:=by kernel_rfl
theorem jr (v:Value)(w:World):(Instr.typeAssert (.iface 77 v) 80 111 true).run Tryd.prog w=.ok (.tuple #[.agg #[.int .i64 0,.int .i64 0,.int .i64 0],.bool false]) w:=by kernel_rfl
theorem g_ (v:Value)(w:World):(Instr.typeAssert (.iface 77 v) 80 114 true).run Tryd.prog w=.ok (.tuple #[.agg #[.int .i64 0,.int .i64 0,.int .i64 0,.int .i64 0],.bool false]) w:=by kernel_rfl
theorem lz (v:Value)(w:World):(Instr.typeAssert (.iface 77 v) 80 119 true).run Tryd.prog w=.ok (.tuple #[.agg #[.int .i64 0,.int .i64 0,.int .i64 0],.bool false]) w:=by kernel_rfl
theorem ru (v:Value)(w:World):(Instr.typeAssert (.iface 77 v) 80 120 true).run Tryd.prog w=.ok (.tuple #[.agg #[.int .i64 0,.int .i64 0,.int .i64 0],.bool false]) w:=by kernel_rfl
theorem uk (v:Value)(w:World):(Instr.typeAssert (.iface 111 v) 80 77 true).run Tryd.prog w=.ok (.tuple #[.agg #[.int .i64 0,.int .i64 0,.int .i64 0],.bool false]) w:=by kernel_rfl
theorem l7 (v:Value)(w:World):(Instr.typeAssert (.iface 111 v) 80 111 true).run Tryd.prog w=.ok (.tuple #[v,.bool true]) w:=by kernel_rfl
theorem o4 (v:Value)(w:World):(Instr.typeAssert (.iface 111 v) 80 114 true).run Tryd.prog w=.ok (.tuple #[.agg #[.int .i64 0,.int .i64 0,.int .i64 0,.int .i64 0],.bool false]) w:=by kernel_rfl
theorem yu (v:Value)(w:World):(Instr.typeAssert (.iface 111 v) 80 119 true).run Tryd.prog w=.ok (.tuple #[.agg #[.int .i64 0,.int .i64 0,.int .i64 0],.bool false]) w:=by kernel_rfl
theorem ap3 (v:Value)(w:World):(Instr.typeAssert (.iface 111 v) 80 120 true).run Tryd.prog w=.ok (.tuple #[.agg #[.int .i64 0,.int .i64 0,.int .i64 0],.bool false]) w:=by kernel_rfl
theorem pa (v:Value)(w:World):(Instr.typeAssert (.iface 114 v) 80 77 true).run Tryd.prog w=.ok (.tuple #[.agg #[.int .i64 0,.int .i64 0,.int .i64 0],.bool false]) w:=by kernel_rfl
theorem jb (v:Value)(w:World):(Instr.typeAssert (.iface 114 v) 80 111 true).run Tryd.prog w=.ok (.tuple #[.agg #[.int .i64 0,.int .i64 0,.int .i64 0],.bool false]) w:=by kernel_rfl
theorem cg (v:Value)(w:World):(Instr.typeAssert (.iface 114 v) 80 114 true).run Tryd.prog w=.ok (.tuple #[v,.bool true]) w:=by kernel_rfl
theorem ab4 (v:Value)(w:World):(Instr.typeAssert (.iface 114 v) 80 119 true).run Tryd.prog w=.ok (.tuple #[.agg #[.int .i64 0,.int .i64 0,.int .i64 0],.bool false]) w:=by kernel_rfl
theorem zu (v:Value)(w:World):(Instr.typeAssert (.iface 114 v) 80 120 true).run Tryd.prog w=.ok (.tuple #[.agg #[.int .i64 0,.int .i64 0,.int .i64 0],.bool false]) w:=by kernel_rfl
theorem um (v:Value)(w:World):(Instr.typeAssert (.iface 119 v) 80 77 true).run Tryd.prog w=.ok (.tuple #[.agg #[.int .i64 0,.int .i64 0,.int .i64 0],.bool false]) w:=by kernel_rfl
theorem ni (v:Value)(w:World):(Instr.typeAssert (.iface 119 v) 80 111 true).run Tryd.prog w=.ok (.tuple #[.agg #[.int .i64 0,.int .i64 0,.int .i64 0],.bool false]) w:=by kernel_rfl
theorem il (v:Value)(w:World):(Instr.typeAssert (.iface 119 v) 80 114 true).run Tryd.prog w=.ok (.tuple #[.agg #[.int .i64 0,.int .i64 0,.int .i64 0,.int .i64 0],.bool false]) w:=by kernel_rfl
theorem mx (v:Value)(w:World):(Instr.typeAssert (.iface 119 v) 80 119 true).run Tryd.prog w=.ok (.tuple #[v,.bool true]) w:=by kernel_rfl
theorem ao7 (v:Value)(w:World):(Instr.typeAssert (.iface 119 v) 80 120 true).run Tryd.prog w=.ok (.tuple #[.agg #[.int .i64 0,.int .i64 0,.int .i64 0],.bool false]) w:=by kernel_rfl
theorem rr (v:Value)(w:World):(Instr.typeAssert (.iface 120 v) 80 77 true).run Tryd.prog w=.ok (.tuple #[.agg #[.int .i64 0,.int .i64 0,.int .i64 0],.bool false]) w:=by kernel_rfl
theorem jz (v:Value)(w:World):(Instr.typeAssert (.iface 120 v) 80 111 true).run Tryd.prog w=.ok (.tuple #[.agg #[.int .i64 0,.int .i64 0,.int .i64 0],.bool false]) w:=by kernel_rfl
theorem gp (v:Value)(w:World):(Instr.typeAssert (.iface 120 v) 80 114 true).run Tryd.prog w=.ok (.tuple #[.agg #[.int .i64 0,.int .i64 0,.int .i64 0,.int .i64 0],.bool false]) w:=by kernel_rfl
theorem lq (v:Value)(w:World):(Instr.typeAssert (.iface 120 v) 80 119 true).run Tryd.prog w=.ok (.tuple #[.agg #[.int .i64 0,.int .i64 0,.int .i64 0],.bool false]) w:=by kernel_rfl
theorem kf (v:Value)(w:World):(Instr.typeAssert (.iface 120 v) 80 120 true).run Tryd.prog w=.ok (.tuple #[v,.bool true]) w:=by kernel_rfl
theorem am5 (w:World):(Instr.typeAssert .nilIface 80 77 true).run Tryd.prog w=.ok (.tuple #[.agg #[.int .i64 0,.int .i64 0,.int .i64 0],.bool false]) w:=by kernel_rfl
theorem ae7 (w:World):(Instr.typeAssert .nilIface 80 111 true).run Tryd.prog w=.ok (.tuple #[.agg #[.int .i64 0,.int .i64 0,.int .i64 0],.bool false]) w:=by kernel_rfl
theorem ag1 (w:World):(Instr.typeAssert .nilIface 80 114 true).run Tryd.prog w=.ok (.tuple #[.agg #[.int .i64 0,.int .i64 0,.int .i64 0,.int .i64 0],.bool false]) w:=by kernel_rfl
theorem a54 (w:World):(Instr.typeAssert .nilIface 80 119 true).run Tryd.prog w=.ok (.tuple #[.agg #[.int .i64 0,.int .i64 0,.int .i64 0],.bool false]) w:=by kernel_rfl
theorem av2 (w:World):(Instr.typeAssert .nilIface 80 120 true).run Tryd.prog w=.ok (.tuple #[.agg #[.int .i64 0,.int .i64 0,.int .i64 0],.bool false]) w:=by kernel_rfl
attribute [local go_sem] jr g_ lz l7 jb cg ni il mx jz gp lq
theorem je.of {w w1 w':World}{kb:Nat}{V V1:aj}{K:a_}(h:je w1 kb V1 K w')(hf:Fr w w1 (V.fp kb))(hd:V1.dv=V.dv)(hfp:∀k,V1.fp kb k->V.fp kb k\/w.heap.size<=k):je w kb V K w':=by
 obtain ⟨V',h1,h2,h3,h4,h5⟩:=h;refine ⟨V',h1,h2,h3.trans hd,hf.step h4 hfp,fun k hk=>?_⟩
 rcases h5 k hk with e | e
 ·exact hfp k e
 ·exact .inr (Nat.le_trans hf.size e)
theorem r_ {w W0:World}{a b c:Obj}(hW:((w.alloc a).alloc b).alloc c=W0):Fr w W0 (fun _=>False)/\W0.heap.size=w.heap.size+3/\W0.heap[w.heap.size]?=some a/\W0.heap[w.heap.size+1]?=some b/\W0.heap[w.heap.size+1+1]?=some c:=by
 subst hW;refine ⟨(((Fr.refl _ _).alloc _).alloc _).alloc _,by simp,?_,?_,?_⟩
 ·rw [heap_alloc_old _ _ (by simp;omega),heap_alloc_old _ _ (by simp)];exact heap_alloc_new _ _
 ·rw [heap_alloc_old _ _ (by simp)];have:=heap_alloc_new (w.alloc a) b;simpa using this
 ·have:=heap_alloc_new ((w.alloc a).alloc b) c;simpa using this
theorem m6 {w W0:World}{a b:Obj}(hW:(w.alloc a).alloc b=W0):Fr w W0 (fun _=>False)/\W0.heap.size=w.heap.size+2/\W0.heap[w.heap.size]?=some a/\W0.heap[w.heap.size+1]?=some b:=by
 subst hW;refine ⟨((Fr.refl _ _).alloc _).alloc _,by simp,?_,?_⟩
 ·rw [heap_alloc_old _ _ (by simp)];exact heap_alloc_new _ _
 ·have:=heap_alloc_new (w.alloc a) b;simpa using this
theorem bs8 {W0 W2:World}{kb:Nat}{V:aj}(h0:aw W0 kb V)(hf2:Fr W0.drew W2 (fun _=>False)){x1 x2 x3:Nat}{c2 c3:Array Value}{t1 t2 t3:TypeId}{v0 v1 v2:Value}
 (hb1:W0.heap[x1]?=some (.cells #[v0,v1,v2] t1 (0,0))) (hb2:W0.heap[x2]?=some (.cells c2 t2 (0,0))) (hb3:W0.heap[x3]?=some (.cells c3 t3 (0,0))) (b n:Int) :
 ∃W1,(Instr.mapUpdate 64 (.map (some V.nb)) (.int .i64 b) (.int .i64 n)).run Tryd.prog W2=.ok () W1/\Fr W0 W1 (fun k=>k=V.nb)/\aw W1 kb {V with N:=putM b n V.N}/\
  W2.cell? ⟨kb,1026,none⟩=some (.map (some V.nb))/\W2.cell? ⟨x1,0,none⟩=some v0/\W2.cell? ⟨x1,1,none⟩=some v1/\W2.cell? ⟨x1,2,none⟩=some v2/\
  W1.cell? ⟨kb,1026,none⟩=some (.map (some V.nb))/\W1.cell? ⟨x1,0,none⟩=some v0/\W1.cell? ⟨x1,1,none⟩=some v1/\W1.cell? ⟨x1,2,none⟩=some v2/\
  W1.heap[x2]?=some (.cells c2 t2 (0,0))/\W1.heap[x3]?=some (.cells c3 t3 (0,0)):=by
 have hf:Fr W0 W2 (fun _=>False):=((Fr.refl W0 (fun _=>False)).drew).step hf2 (fun _=>False.elim);have h2:=h0.frame hf (fun _ _=>id);obtain ⟨W1,hrun,hm1,hf1,hs1⟩:=h2.nodes.put_run kp Tryd.underlying64 b n;have no:∀{x:Nat} {c:Array Value} {t:TypeId},W0.heap[x]?=some (.cells c t (0,0))->x≠V.nb:=fun hx e=>du h0.nodes (e▸hx)
 have h3:=h2.putN hm1 hf1;have hx1:=hf1.same (hf.same hb1 id) (no hb1);exact ⟨W1,hrun,(hf.mono (fun _=>False.elim)).step hf1 (fun k hk=>.inl hk),h3,h2.cn,aa (hf.same hb1 id) rfl,aa (hf.same hb1 id) rfl,aa (hf.same hb1 id) rfl,h3.cn,aa hx1 rfl,aa hx1 rfl,aa hx1 rfl,
  hf1.same (hf.same hb2 id) (no hb2),hf1.same (hf.same hb3 id) (no hb3)⟩
theorem ae0 (V:aj)(kb:Nat)(t p:Slot)(c:KCap)(root:Int)(w:World)(h:aw w kb V)(hl:∀x,aq p V.M=some x->x.kids.length<1000000)
 (hc:(∃b n m,c=.untyped b n m)\/∃b n r,c=.frame b n r) :
 Calls Tryd.prog 26 #[.pointer (some ⟨kb,0,none⟩),.agg #[.int .i64 t.node,.int .i64 t.index],c.val,.agg #[.int .i64 p.node,.int .i64 p.index],.int .i64 root] w fun e w'=>e=.returned (.tuple #[])/\je w kb V (V.ker.found t c p root) w':=by
 rcases hc with ⟨b,n,m,rfl⟩ | ⟨b,n,r,rfl⟩
 ·go_enter Tryd.func26,Tryd.ntmps26
  simp only [KCap.val];go_wp2_with fail
  generalize hW0:(w.alloc _).alloc _=W0;obtain ⟨hf0,_,_,_⟩:=m6 hW0;refine (pq V kb t p (.untyped b n m) W0 (h.frame hf0 (fun _ _=>id)) hl).mono ?_;rintro e w1 ⟨rfl,hK⟩;have hK2:=hK.of (V:=V) (hf0.mono (fun _=>False.elim)) rfl (fun k hk=>.inl hk);go_wp2;go_end0;exact ⟨rfl,hK2⟩
 ·go_enter Tryd.func26,Tryd.ntmps26
  simp only [KCap.val];go_wp2_with fail
  generalize hW0:(w.alloc _).alloc _=W0;obtain ⟨hf0,_,_,_⟩:=m6 hW0;refine (pq V kb t p (.frame b n r) W0 (h.frame hf0 (fun _ _=>id)) hl).mono ?_;rintro e w1 ⟨rfl,hK⟩;have hK2:=hK.of (V:=V) (hf0.mono (fun _=>False.elim)) rfl (fun k hk=>.inl hk);go_wp2;go_end0;exact ⟨rfl,hK2⟩
theorem a85 (V:aj)(kb:Nat)(t p:Slot)(b n r:Int)(root:Int)(w:World)(h:aw w kb V)(hl:∀x,aq p V.M=some x->x.kids.length<1000000):
 Calls Tryd.prog 26 #[.pointer (some ⟨kb,0,none⟩),.agg #[.int .i64 t.node,.int .i64 t.index],(KCap.task b n r).val,.agg #[.int .i64 p.node,.int .i64 p.index],.int .i64 root] w fun e w'=>e=.returned (.tuple #[])/\je w kb V (V.ker.found t (.task b n r) p root) w':=by
 go_enter Tryd.func26,Tryd.ntmps26
 simp only [KCap.val];go_wp2_with fail
 generalize hW0:World.alloc _ _=W0;obtain ⟨hf0,hs0,hbt,hbp,hbc⟩:=r_ hW0;clear hW0;have h0:aw W0 kb V:=h.frame hf0 (fun _ _=>id);have hd:Fr W0 W0.drew (fun _=>False):=(Fr.refl _ _).drew;have hlt:=h.thr.lt;obtain ⟨W1,hrun,hm1,hf1,hs1⟩:=(h0.frame hd (fun _ _=>id)).thr.put_run kp Tryd.underlying65 b ⟨1,root,0,0,0⟩;simp only [ke,mg.val] at hrun;have h1:aw W1 kb {V with T:=putM b ⟨1,root,0,0,0⟩ V.T}:=(h0.frame hd (fun _ _=>id)).putT hm1 hf1;have hb1:=hf1.same (hd.same hbt id) (fun e=>by omega);have hb2:=hf1.same (hd.same hbp id) (fun e=>by omega);have hb3:=hf1.same (hd.same hbc id) (fun e=>by omega);have c0:=h0.cr;have q0:=aa (o:=0) hbc rfl;have c1:=h1.cr;have q1:=aa (o:=0) hb3 rfl;go_region_held3 (fun w'=>w'.cell? ⟨kb,1028,none⟩=some (.map (some V.rb))/\w'.cell? ⟨w.heap.size+1+1,0,none⟩=some (.int .i64 b)) (go_keep) (fail)
 clear c0 q0 c1 q1 hrun;have hF1:Fr w W1 (V.fp kb):=((hf0.step hd (fun _=>False.elim)).mono (fun _=>False.elim)).step hf1 (fun k hk=>.inl (.inr (.inr (.inr (.inl hk)))))
 have t0:=aa (o:=0) hb1 rfl;have t1:=aa (o:=1) hb1 rfl;have p0:=aa (o:=0) hb2 rfl;have p1:=aa (o:=1) hb2 rfl;go_wp2_with fail
 refine (pq _ kb t p (.task b n r) W1 h1 hl).mono ?_;rintro e w1 ⟨rfl,hK⟩;have hK2:=hK.of (V:=V) hF1 rfl (fun k hk=>.inl hk);have hKe:a_.lay (aj.ker {V with T:=putM b ⟨1,root,0,0,0⟩ V.T}) t (.task b n r) p=V.ker.found t (.task b n r) p root:=by
  simp only [aj.ker,a_.found,ji]
 rw [hKe] at hK2;clear t0 t1 p0 p1 hK hKe;go_wp2;go_end0;exact ⟨rfl,hK2⟩
theorem ba6 (V:aj)(kb:Nat)(t p:Slot)(b n r:Int)(root:Int)(w:World)(h:aw w kb V)(hl:∀x,aq p V.M=some x->x.kids.length<1000000)(hn0:0<=n)(hn1:n<=20):
 Calls Tryd.prog 26 #[.pointer (some ⟨kb,0,none⟩),.agg #[.int .i64 t.node,.int .i64 t.index],(KCap.node b n r).val,.agg #[.int .i64 p.node,.int .i64 p.index],.int .i64 root] w fun e w'=>e=.returned (.tuple #[])/\je w kb V (V.ker.found t (.node b n r) p root) w':=by
 go_enter Tryd.func26,Tryd.ntmps26
 simp only [KCap.val];go_wp2_with fail
 generalize hW0:World.alloc _ _=W0;obtain ⟨hf0,hs0,hbt,hbp,hbc⟩:=r_ hW0;clear hW0;have h0:aw W0 kb V:=h.frame hf0 (fun _ _=>id);have hlt:=h.nodes.lt;have c0:=h0.cn;have q0:=aa (o:=0) hbc rfl;have q1:=aa (o:=1) hbc rfl;have q2:=aa (o:=2) hbc rfl;go_region_held3 (fun w'=>w'.cell? ⟨kb,1026,none⟩=some (.map (some V.nb))/\w'.cell? ⟨w.heap.size+1+1,0,none⟩=some (.int .i64 b)/\w'.cell? ⟨w.heap.size+1+1,1,none⟩=some (.int .i64 n)/\w'.cell? ⟨w.heap.size+1+1,2,none⟩=some (.int .i64 r)) (go_keep)
  ((go_at_call 41;refine (bm4 b n r _ hn0 hn1).mono ?_;rintro e W2 ⟨rfl,hf2⟩;obtain ⟨W1,hrun,hf3,h1,g1,g2,g3,g4,g5,g6,g7,g8,hbt1,hbp1⟩:=bs8 h0 hf2 hbc hbt hbp b (pw n.toNat / 4)))
 clear c0 q0 q1 q2 g1 g2 g3 g4 g5 g6 g7 g8 hrun;have hF1:Fr w W1 (V.fp kb):=(hf0.mono (fun _=>False.elim)).step hf3 (fun k hk=>.inl (.inr (.inr (.inl hk))))
 have t0:=aa (o:=0) hbt1 rfl;have t1:=aa (o:=1) hbt1 rfl;have p0:=aa (o:=0) hbp1 rfl;have p1:=aa (o:=1) hbp1 rfl;go_wp2_with fail
 refine (pq _ kb t p (.node b n r) W1 h1 hl).mono ?_;rintro e w1 ⟨rfl,hK⟩;have hK2:=hK.of (V:=V) hF1 rfl (fun k hk=>.inl hk);have hKe:a_.lay (aj.ker {V with N:=putM b (pw n.toNat / 4) V.N}) t (.node b n r) p=V.ker.found t (.node b n r) p root:=by
  simp only [aj.ker,a_.found,ji]
 rw [hKe] at hK2;clear t0 t1 p0 p1 hK hKe;go_wp2;go_end0;exact ⟨rfl,hK2⟩
def yl (C:Nat->List dx)(q:Nat×Nat)(k:Nat):List dx:=if k=q.1\/k=q.2 then [] else C k
theorem bz2 {W0 W2:World}{kb:Nat}{V:aj}(h0:aw W0 kb V)(hf2:Fr W0.drew W2 (fun _=>False)){x1 x2 x3:Nat}{c2 c3:Array Value}{t1 t2 t3:TypeId}{v0 v1 v2 v3:Value}
 (hb1:W0.heap[x1]?=some (.cells #[v0,v1,v2,v3] t1 (0,0))) (hb2:W0.heap[x2]?=some (.cells c2 t2 (0,0))) (hb3:W0.heap[x3]?=some (.cells c3 t3 (0,0))) (b:Int) (q:Nat×Nat) (hq:q.1≠q.2/\W0.heap.size<=q.1/\W0.heap.size<=q.2/\l5 W2 q.1 []/\l5 W2 q.2 []) :
 ∃W1,(Instr.mapUpdate 66 (.map (some V.qb)) (.int .i64 b) (oh q)).run Tryd.prog W2=.ok () W1/\Fr W0 W1 (fun k=>k=V.qb)/\aw W1 kb {V with Q:=putM b q V.Q,C:=yl V.C q}/\
  W2.cell? ⟨kb,1029,none⟩=some (.map (some V.qb))/\W2.cell? ⟨x1,0,none⟩=some v0/\
  W1.cell? ⟨kb,1029,none⟩=some (.map (some V.qb))/\W1.cell? ⟨x1,0,none⟩=some v0/\
  W1.heap[x2]?=some (.cells c2 t2 (0,0))/\W1.heap[x3]?=some (.cells c3 t3 (0,0)):=by
 have hf:Fr W0 W2 (fun _=>False):=((Fr.refl W0 (fun _=>False)).drew).step hf2 (fun _=>False.elim);have h2:=h0.frame hf (fun _ _=>id);obtain ⟨W1,hrun,hm1,hf1,hs1⟩:=h2.que.put_run kp Tryd.underlying66 b q;have no:∀{x:Nat} {c:Array Value} {t:TypeId},W0.heap[x]?=some (.cells c t (0,0))->x≠V.qb:=fun hx e=>du h0.que (e▸hx)
 have h3:=h2.putQ hm1 hf1 (C':=yl V.C q) (by
  have hr:=h2.rest.frame hf1 (fun k hk=>h2.rest.noMap h2.que hk);have hqb:=h2.que.lt;have hlt:=h0.que.lt;have hkey:∀b' q',aq b' (putM b q V.Q)=some q'->(b'=b/\q'=q)\/(b'≠b/\aq b' V.Q=some q'):=by
   intro b' q' h';rw [gz] at h';split at h'
   ·rename_i e;cases h';exact .inl ⟨e.symm,rfl⟩
   ·rename_i e;exact .inr ⟨fun e2=>e e2.symm,h'⟩
  have hold:∀b' q',aq b' V.Q=some q'->q'.1<W0.heap.size/\q'.2<W0.heap.size:=fun b' q' h'=>
   ⟨h0.rest.lt ⟨b',q',h',.inl rfl⟩,h0.rest.lt ⟨b',q',h',.inr rfl⟩⟩
  have hCo:∀k,k<W0.heap.size->yl V.C q k=V.C k:=fun k hk=>by unfold yl;rw [if_neg (by omega)]
  refine ⟨?_,?_,?_⟩
  ·intro b' q' h';rcases hkey b' q' h' with ⟨_,rfl⟩ | ⟨_,h'⟩
   ·have e1:yl V.C q' q'.1=[]:=by unfold yl;rw [if_pos (.inl rfl)]
    have e2:yl V.C q' q'.2=[]:=by unfold yl;rw [if_pos (.inr rfl)]
    rw [e1,e2];exact ⟨hq.2.2.2.1.frame hf1 (by omega),hq.2.2.2.2.frame hf1 (by omega)⟩
   ·obtain ⟨l1,l2⟩:=hold b' q' h';rw [hCo _ l1,hCo _ l2];exact hr.chan b' q' h'
  ·intro b1 q1 b2 q2 g1 g2 hne;rcases hkey b1 q1 g1 with ⟨e1,f1⟩ | ⟨_,k1⟩<;>rcases hkey b2 q2 g2 with ⟨e2,f2⟩ | ⟨_,k2⟩
   ·exact absurd (e1.trans e2.symm) hne
   ·obtain ⟨l1,l2⟩:=hold b2 q2 k2;rw [f1];exact ⟨by omega,by omega,by omega,by omega⟩
   ·obtain ⟨l1,l2⟩:=hold b1 q1 k1;rw [f2];exact ⟨by omega,by omega,by omega,by omega⟩
   ·exact h0.rest.apart b1 q1 b2 q2 k1 k2 hne
  ·intro b' q' h';rcases hkey b' q' h' with ⟨_,rfl⟩ | ⟨_,h'⟩
   ·exact hq.1
   ·exact h0.rest.two b' q' h')
 have hx1:=hf1.same (hf.same hb1 id) (no hb1);exact ⟨W1,hrun,(hf.mono (fun _=>False.elim)).step hf1 (fun k hk=>.inl hk),h3,h2.cq,aa (hf.same hb1 id) rfl,h3.cq,aa hx1 rfl,
  hf1.same (hf.same hb2 id) (no hb2),hf1.same (hf.same hb3 id) (no hb3)⟩
theorem bi9 (V:aj)(kb:Nat)(t p:Slot)(b n r g:Int)(root:Int)(w:World)(h:aw w kb V)(hl:∀x,aq p V.M=some x->x.kids.length<1000000):
 Calls Tryd.prog 26 #[.pointer (some ⟨kb,0,none⟩),.agg #[.int .i64 t.node,.int .i64 t.index],(KCap.endpoint b n r g).val,.agg #[.int .i64 p.node,.int .i64 p.index],.int .i64 root] w fun e w'=>e=.returned (.tuple #[])/\je w kb V (V.ker.found t (.endpoint b n r g) p root) w':=by
 go_enter Tryd.func26,Tryd.ntmps26
 simp only [KCap.val];go_wp2_with fail
 generalize hW0:World.alloc _ _=W0;obtain ⟨hf0,hs0,hbt,hbp,hbc⟩:=r_ hW0;clear hW0;have h0:aw W0 kb V:=h.frame hf0 (fun _ _=>id);have hlt:=h.nodes.lt;have c0:=h0.cq;have q0:=aa (o:=0) hbc rfl;go_region_held3 (fun w'=>w'.cell? ⟨kb,1029,none⟩=some (.map (some V.qb))/\w'.cell? ⟨w.heap.size+1+1,0,none⟩=some (.int .i64 b)) (go_keep)
  ((go_at_call 42;refine (bt2 _).mono ?_;rintro e W2 ⟨⟨q,rfl,hq⟩,hf2⟩;obtain ⟨W1,hrun,hf3,h1,g1,g2,g3,g4,hbt1,hbp1⟩:=bz2 h0 hf2 hbc hbt hbp b q hq))
 clear c0 q0 g1 g2 g3 g4 hrun;have hF1:Fr w W1 (V.fp kb):=(hf0.mono (fun _=>False.elim)).step hf3 (fun k hk=>.inl (.inr (.inr (.inr (.inr (.inl hk))))))
 have t0:=aa (o:=0) hbt1 rfl;have t1:=aa (o:=1) hbt1 rfl;have p0:=aa (o:=0) hbp1 rfl;have p1:=aa (o:=1) hbp1 rfl;go_wp2_with fail
 refine (pq _ kb t p (.endpoint b n r g) W1 h1 hl).mono ?_;rintro e w1 ⟨rfl,hK⟩;have hfpn:∀k,aj.fp kb {V with Q:=putM b q V.Q,C:=yl V.C q} k->V.fp kb k\/w.heap.size<=k:=by
  rintro k (e | e | e | e | e | e | ⟨b',q',hl',e⟩)
  ·exact .inl (.inl e)
  ·exact .inl (.inr (.inl e))
  ·exact .inl (.inr (.inr (.inl e)))
  ·exact .inl (.inr (.inr (.inr (.inl e))))
  ·exact .inl (.inr (.inr (.inr (.inr (.inl e)))))
  ·exact .inl (.inr (.inr (.inr (.inr (.inr (.inl e))))))
  ·rw [gz] at hl';split at hl'
   ·cases hl'
    right;have hq2:=hq.2.1;have hq3:=hq.2.2.1;have hdr:W0.drew.heap.size=W0.heap.size:=rfl;have:=hf0.size;omega
   ·exact .inl (.inr (.inr (.inr (.inr (.inr (.inr ⟨b',q',hl',e⟩))))))
 have hK2:=hK.of (V:=V) hF1 rfl hfpn;have hKe:a_.lay (aj.ker {V with Q:=putM b q V.Q,C:=yl V.C q}) t (.endpoint b n r g) p=V.ker.found t (.endpoint b n r g) p root:=by
  have hqs:(fun b'=>(aq b' (putM b q V.Q)).map fun q'=>(yl V.C q q'.1,yl V.C q q'.2))=upd (fun b'=>(aq b' V.Q).map fun q'=>(V.C q'.1,V.C q'.2)) b (some ([],[])):=by
   funext b';rw [gz];by_cases e:b=b'
   ·subst e;rw [if_pos rfl,ai];simp [yl]
   ·rw [if_neg e,af _ _ (Ne.symm e)];cases hl':aq b' V.Q with
    | none=>rfl
    | some q'=>
     have l1:=h0.rest.lt (k:=q'.1) ⟨b',q',hl',.inl rfl⟩;have l2:=h0.rest.lt (k:=q'.2) ⟨b',q',hl',.inr rfl⟩;have hq2:=hq.2.1;have hq3:=hq.2.2.1;have hdr:W0.drew.heap.size=W0.heap.size:=rfl;simp only [Option.map_some,yl];rw [if_neg (by omega),if_neg (by omega)]
  simp only [aj.ker,a_.found,hqs]
 rw [hKe] at hK2;clear t0 t1 p0 p1 hK hKe;go_wp2;go_end0;exact ⟨rfl,hK2⟩
theorem ab_ (V:aj)(kb:Nat)(t p:Slot)(c:KCap)(root:Int)(w:World)(h:aw w kb V)(hl:∀x,aq p V.M=some x->x.kids.length<1000000)(hn:∀b n r,c=.node b n r->0<=n/\n<=20):
 Calls Tryd.prog 26 #[.pointer (some ⟨kb,0,none⟩),.agg #[.int .i64 t.node,.int .i64 t.index],c.val,.agg #[.int .i64 p.node,.int .i64 p.index],.int .i64 root] w fun e w'=>e=.returned (.tuple #[])/\je w kb V (V.ker.found t c p root) w':=by
 cases c with
 | untyped b n m=>exact ae0 V kb t p _ root w h hl (.inl ⟨b,n,m,rfl⟩)
 | node b n r=>exact ba6 V kb t p b n r root w h hl (hn b n r rfl).1 (hn b n r rfl).2
 | endpoint b n r g=>exact bi9 V kb t p b n r g root w h hl
 | task b n r=>exact a85 V kb t p b n r root w h hl
 | frame b n r=>exact ae0 V kb t p _ root w h hl (.inr ⟨b,n,r,rfl⟩)
def kb0 (h t n r q:Nat):Array Value:=Array.replicate 1024 (.int .u32 0)++#[.map (some h),.map (some t),.map (some n),.slice none 0 0,.map (some r),.map (some q)]
theorem aw1 (h t n r q:Nat)(w:World):(Instr.build 70 #[(1,.map (some h)),(2,.map (some t)),(3,.map (some n)),(5,.map (some r)),(6,.map (some q))]).run Tryd.prog w=.ok (.agg (kb0 h t n r q)) w:=by kernel_rfl
theorem bf2 (h t n r q:Nat)(w:World):(Instr.box 70 (.agg (kb0 h t n r q))).run Tryd.prog w=.ok (.pointer (some ⟨w.heap.size,0,none⟩)) (w.alloc (.cells (kb0 h t n r q) 70)):=by kernel_rfl
section
variable {ops:Array Oper} {rest:List Oper} {o:Oper} {a:Act} {Q:Exit->Act->World->Prop} {w:World} {h t n r q:Nat}
theorem an9 (hg:o.guard=none)(x1 x2 x3 x4 x5:Operand)(hop:o.op=Op.build 70 #[(1,x1),(2,x2),(3,x3),(5,x4),(6,x5)])
 (e1:a.eval x1=.map (some h)) (e2:a.eval x2=.map (some t)) (e3:a.eval x3=.map (some n)) (e4:a.eval x4=.map (some r)) (e5:a.eval x5=.map (some q))
 (hK:wpList Tryd.prog ops Q rest (a.put o.dst (.agg (kb0 h t n r q))) w):wpList Tryd.prog ops Q (o :: rest) a w:=by
 refine wpList_plain hg fun K' hK'=>?_
 unfold Oper.wp;have:=aw1 h t n r q w;simp [execOp,hop,e1,e2,e3,e4,e5,this,Result.andThen];exact hK' _ _ hK
theorem av5 (hg:o.guard=none)(x:Operand)(hop:o.op=Op.box 70 x)(e:a.eval x=.agg (kb0 h t n r q))
 (hK:wpList Tryd.prog ops Q rest (a.put o.dst (.pointer (some ⟨w.heap.size,0,none⟩))) (w.alloc (.cells (kb0 h t n r q) 70))):wpList Tryd.prog ops Q (o :: rest) a w:=by
 refine wpList_plain hg fun K' hK'=>?_
 unfold Oper.wp;have:=bf2 h t n r q w;simp [execOp,hop,e,this,Result.andThen];exact hK' _ _ hK
end
def m_ (n:Nat):aj:=⟨n,n+1,n+1+1,n+1+1+1,n+1+1+1+1,[],[],[],[],[],.slice none 0 0,fun _=>0,fun _=>[]⟩
theorem bl4 (n:Nat):a78 (m_ n) (kb0 n (n+1) (n+1+1) (n+1+1+1) (n+1+1+1+1)):=by
 refine ⟨by simp [kb0],?_,by simp [kb0,m_],by simp [kb0,m_],by simp [kb0,m_],by simp [kb0,m_],by simp [kb0,m_],by simp [kb0,m_]⟩;intro i hi;unfold kb0;rw [Array.getElem?_append_left (by simp;omega)];simp [m_,hi]
theorem bj0 {w W0:World}{o:Obj} (hW:(((((((w.alloc (.map #[] 0)).alloc (.map #[] 0)).alloc (.map #[] 0)).alloc (.map #[] 0)).alloc (.map #[] 0)).alloc
 (.cells (kb0 w.heap.size (w.heap.size+1) (w.heap.size+1+1) (w.heap.size+1+1+1) (w.heap.size+1+1+1+1)) 70)).alloc o)=W0) :
 Fr w W0 (fun _=>False)/\W0.heap.size=w.heap.size+7/\W0.heap[w.heap.size+1+1+1+1+1+1]?=some o/\aw W0 (w.heap.size+1+1+1+1+1) (m_ w.heap.size):=by
 subst hW;have key:∀(l:List Obj) (W:World),(l.foldl World.alloc W).heap.size=W.heap.size+l.length/\∀i,(hi:i<l.length)->(l.foldl World.alloc W).heap[W.heap.size+i]?=some l[i]:=by
  intro l;induction l with
  | nil=>intro W;exact ⟨rfl,fun i hi=>absurd hi (by simp)⟩
  | cons x l ih=>
   intro W;obtain ⟨h1,h2⟩:=ih (W.alloc x);have hs:(W.alloc x).heap.size=W.heap.size+1:=by simp
   rw [hs] at h1 h2;refine ⟨by simp only [List.foldl_cons,List.length_cons];omega,fun i hi=>?_⟩
   cases i with
   | zero=>
    have hfr:∀(l:List Obj) (W:World) (k:Nat),k<W.heap.size->(l.foldl World.alloc W).heap[k]?=W.heap[k]?:=by
     intro l;induction l with
     | nil=>intro W k _;rfl
     | cons y l ih2=>intro W k hk;simp only [List.foldl_cons];rw [ih2 (W.alloc y) k (by simp;omega),heap_alloc_old _ _ hk]
    simp only [List.foldl_cons,List.getElem_cons_zero,Nat.add_zero];rw [hfr l (W.alloc x) W.heap.size (by simp)];exact heap_alloc_new _ _
   | succ i=>
    have:=h2 i (by simpa using hi);simp only [List.foldl_cons,List.getElem_cons_succ];rw [show W.heap.size+(i+1)=W.heap.size+1+i by omega];exact this
 obtain ⟨hs,hg⟩:=key [.map #[] 0,.map #[] 0,.map #[] 0,.map #[] 0,.map #[] 0,.cells (kb0 w.heap.size (w.heap.size+1) (w.heap.size+1+1) (w.heap.size+1+1+1) (w.heap.size+1+1+1+1)) 70,o] w;simp only [List.foldl_cons,List.foldl_nil,List.length_cons,List.length_nil] at hs hg;have m:∀{κ α:Type} [DecidableEq κ] (val:κ->Value) (enc:α->Value) (b:Nat) (W:World),W.heap[b]?=some (.map #[] 0)->eo W b val enc []:=fun val enc b W hb=>⟨⟨#[],0,hb,rfl,MapKept.stamped_empty 0⟩,by simp⟩
 have g0:=hg 0 (by omega);have g1:=hg 1 (by omega);have g2:=hg 2 (by omega);have g3:=hg 3 (by omega);have g4:=hg 4 (by omega);have g5:=hg 5 (by omega);have g6:=hg 6 (by omega);refine ⟨(((((((Fr.refl _ _).alloc _).alloc _).alloc _).alloc _).alloc _).alloc _).alloc _,hs,g6,⟨⟨_,g5,bl4 _⟩,m _ _ _ _ g0,⟨m _ _ _ _ g1,(fun s x hx=>by cases hx),(fun s x hx=>by cases hx),(fun s x s' x' hx=>by cases hx)⟩,m _ _ _ _ g2,m _ _ _ _ g3,m _ _ _ _ g4,
  ?_,?_,?_,?_,?_,?_,?_,?_,?_,?_,(fun s x hx=>by cases hx),⟨(fun b q hq=>by cases hq),(fun b q b' q' hq=>by cases hq),(fun b q hq=>by cases hq)⟩⟩⟩
 all_goals (simp only [m_];omega)
theorem bs_ (n:Nat)(k:Nat)(hk:(m_ n).fp (n+1+1+1+1+1) k):n<=k/\k≠n+1+1+1+1+1+1:=by
 rcases hk with h | h | h | h | h | (h | ⟨s,x,hx,_⟩) | ⟨b,q,hq,_⟩
 ·omega
 ·simp only [m_] at h;omega
 ·simp only [m_] at h;omega
 ·simp only [m_] at h;omega
 ·simp only [m_] at h;omega
 ·simp only [m_] at h;omega
 ·cases hx
 ·cases hq
theorem je.fr {w w':World}{kb:Nat}{V:aj}{K:a_}{S:Nat->Prop}(h:je w kb V K w')(hn:∀k,V.fp kb k->S k)(hs:∀k,w.heap.size<=k->S k):
 ∃V',aw w' kb V'/\V'.ker=K/\V'.dv=V.dv/\(∀k,V'.fp kb k->S k)/\Fr w w' (V.fp kb):=by
 obtain ⟨V',h1,h2,h3,h4,h5⟩:=h;refine ⟨V',h1,h2,h3,fun k hk=>?_,h4⟩
 rcases h5 k hk with e | e
 ·exact hn k e
 ·exact hs k e
theorem ar0 {W1 W2 W3:World}{kb sb n:Nat}{V1:aj}{K:a_}{x y:Value}{t:TypeId}(hK:je W2 kb V1 K W3)(hf2:Fr W1.drew W2 (fun _=>False))(hb1:W1.heap[sb]?=some (.cells #[x,y] t (0,0)))
 (hp:∀k,V1.fp kb k->n<=k/\k≠sb) (hn:n<=W1.heap.size):∃V3,aw W3 kb V3/\V3.ker=K/\V3.dv=V1.dv/\(∀k,V3.fp kb k->n<=k/\k≠sb)/\Fr W1 W3 (V1.fp kb)/\W3.heap[sb]?=some (.cells #[x,y] t (0,0))/\
 W3.cell? ⟨sb,0,none⟩=some x/\W3.cell? ⟨sb,1,none⟩=some y:=by
 have hlt:=(Array.getElem?_eq_some_iff.1 hb1).1;have hf:Fr W1 W2 (fun _=>False):=((Fr.refl W1 (fun _=>False)).drew).step hf2 (fun _=>False.elim);have hs:=hf.size;obtain ⟨V3,h3,hk3,hd3,hp3,hf3⟩:=hK.fr hp (fun k hk=>by omega);have hb3:=hf3.same (hf.same hb1 id) (fun e=>(hp _ e).2 rfl)
 exact ⟨V3,h3,hk3,hd3,hp3,(hf.mono (fun _=>False.elim)).step hf3 (fun k hk=>.inl hk),hb3,aa hb3 rfl,aa hb3 rfl⟩
theorem ag4 {V:aj}{p:Slot}{n:Nat}(h:∀y,V.ker.st p=some y->y.kids.length<n):∀x,aq p V.M=some x->x.kids.length<n:=by
 intro x hx;exact h x.std (by simp [aj.ker,dc,hx])
theorem bt7 (w:World)(hg0:w.cell? ⟨0,0,none⟩=some (.int .i64 (-1)))(hg1:w.cell? ⟨0,1,none⟩=some (.int .i64 (-1))):
 Calls Tryd.prog 11 #[] w fun e w'=>∃kb V,e=.returned (.pointer (some ⟨kb,0,none⟩))/\aw w' kb V/\V.ker=nu/\V.dv=.slice none 0 0/\(∀k,V.fp kb k->w.heap.size<=k)/\Fr w w' (fun _=>False):=by
 have hmm:=@run_makeMap Tryd.prog;have hlt:0<w.heap.size:=World.block_lt_of_cell? w _ hg0;go_enter Tryd.func11,Tryd.ntmps11
 go_wp2_with (first
  |(refine an9 rfl _ _ _ _ _ rfl rfl rfl rfl rfl rfl ?_)
  |(refine av5 rfl _ rfl rfl ?_))
 generalize hW0:World.alloc _ _=W0;obtain ⟨hf0,hs0,hb0,h0⟩:=bj0 hW0;clear hW0 hmm;have hp0:=bs_ w.heap.size;have hd0:(m_ w.heap.size).dv=.slice none 0 0:=rfl;have hk0:(m_ w.heap.size).ker=aa1:=rfl;have hsb:w.heap.size<=w.heap.size+1+1+1+1+1+1:=by omega
 have hsb2:w.heap.size+1+1+1+1+1+1<W0.heap.size:=by omega
 generalize w.heap.size+1+1+1+1+1+1=sb at hb0 hp0 hsb hsb2;generalize w.heap.size+1+1+1+1+1=kb at h0 hp0;generalize m_ w.heap.size=V0 at h0 hp0 hd0 hk0;refine (pq V0 kb ⟨0,0⟩ ⟨-1,-1⟩ (.untyped 0 10 80) W0 h0 (ag4 (by rw [hk0];intro y hy;cases hy))).mono ?_;rintro e W1 ⟨rfl,hK⟩;rw [hk0] at hK;obtain ⟨V1,h1,hk1,hd1,hp1,hf1⟩:=hK.fr hp0 (fun k hk=>by omega);have hb1:=hf1.same hb0 (fun e=>(hp0 _ e).2 rfl)
 have hF1:Fr w W1 (fun _=>False):=hf0.step hf1 (fun k hk=>.inr (hp0 k hk).1)
 have hs1:=hf1.size;clear hK h0 hp0 hk0 hf1 hf0 hb0;have q0:=aa (o:=0) hb1 rfl;have q1:=aa (o:=1) hb1 rfl;go_wp2_with fail
 have hm1:=am3 2 0 6;rw [show gn 2 0 6=KCap.node 0 6 7 from rfl] at hm1;have hst1:∀y,V1.ker.st ⟨0,0⟩=some y->y.kids.length<1000000:=by
  rw [hk1];intro y hy;have:(aa1.lay ⟨0,0⟩ (.untyped 0 10 80) ⟨-1,-1⟩).st ⟨0,0⟩=some ⟨⟨-1,-1⟩,[]⟩:=rfl;rw [this] at hy;cases hy;decide
 go_region_held3 (fun w'=>w'.cell? ⟨sb,0,none⟩=some (.int .i64 0)/\w'.cell? ⟨sb,1,none⟩=some (.int .i64 0)) (go_keep)
  (first
    |(go_at_call 27;refine (hm1 _).mono ?_;rintro e W2 ⟨rfl,hf2⟩;obtain ⟨g0,g1⟩:=ag0 hf2 hb1 (by simp);have h2:=h1.frame (((Fr.refl W1 (fun _=>False)).drew).step hf2 (fun _=>False.elim)) (fun _ _=>id))
    |(go_at_call 26;refine (ab_ V1 kb ⟨0,1⟩ ⟨0,0⟩ (.node 0 6 7) 0 W2 h2 (ag4 hst1) (fun b n r e=>by cases e;decide)).mono ?_;rintro e W3 ⟨rfl,hK3⟩;obtain ⟨V3,h3,hk3,hd3,hp3,hf3,hb3,g2,g3⟩:=ar0 hK3 hf2 hb1 hp1 (by omega)))
 have hF3:Fr w W3 (fun _=>False):=hF1.step hf3 (fun k hk=>.inr (hp1 k hk).1)
 have hs3:=hf3.size;rw [hk1] at hk3;clear hK3 h2 hf2 g0 g1 h1 hk1 hp1 hf3 hb1 hm1 hst1 q0 q1;have hm3:=am3 4 64 4;rw [show gn 4 64 4=KCap.task 64 4 7 from rfl] at hm3;have hst3:∀y,V3.ker.st ⟨0,0⟩=some y->y.kids.length<1000000:=by
  rw [hk3];intro y hy;have:((aa1.lay ⟨0,0⟩ (.untyped 0 10 80) ⟨-1,-1⟩).found ⟨0,1⟩ (.node 0 6 7) ⟨0,0⟩ 0).st ⟨0,0⟩=some ⟨⟨-1,-1⟩,[⟨0,1⟩]⟩:=rfl;rw [this] at hy;cases hy;decide
 go_wp2_with fail
 go_region_held3 (fun w'=>w'.cell? ⟨sb,0,none⟩=some (.int .i64 0)/\w'.cell? ⟨sb,1,none⟩=some (.int .i64 0)) (go_keep)
  (first
    |(go_at_call 27;refine (hm3 _).mono ?_;rintro e W4 ⟨rfl,hf4⟩;obtain ⟨g0,g1⟩:=ag0 hf4 hb3 (by simp);have h4:=h3.frame (((Fr.refl W3 (fun _=>False)).drew).step hf4 (fun _=>False.elim)) (fun _ _=>id))
    |(go_at_call 26;refine (ab_ V3 kb ⟨0,2⟩ ⟨0,0⟩ (.task 64 4 7) 0 W4 h4 (ag4 hst3) (fun b n r e=>by cases e)).mono ?_;rintro e W5 ⟨rfl,hK5⟩;obtain ⟨V5,h5,hk5,hd5,hp5,hf5,hb5,g4,g5⟩:=ar0 hK5 hf4 hb3 hp3 (by omega)))
 have hF5:Fr w W5 (fun _=>False):=hF3.step hf5 (fun k hk=>.inr (hp3 k hk).1)
 rw [hk3] at hk5;clear hK5 h4 hf4 g0 g1 h3 hk3 hp3 hf5 hb3 hm3 hst3 g2 g3;go_wp2;go_ret;exact ⟨kb,V5,rfl,h5,hk5,by rw [hd5,hd3,hd1,hd0],fun k hk=>(hp5 k hk).1,hF5⟩
def o8 (kb:Nat)(c:Cl)(av tv:Value)(th root:Int)(bv:Value):Array Value:=
 #[.pointer (some ⟨kb,0,none⟩),.int .i64 c.kind,av,tv,.int .i64 c.ty,.int .i64 c.bits,.int .i64 c.count,.int .i64 c.rights,.int .i64 c.badge,.int .i64 c.value,.int .i64 c.offset,.int .i64 th,.int .i64 root,bv]
def ef (w:World)(ub kb:Nat)(c:Cl)(av tv:Value)(th root:Int)(bv:Value):Prop:=w.heap[ub]?=some (.cells (o8 kb c av tv th root bv) 91 (0,0))
theorem ef.frame {w w':World}{ub kb:Nat}{c:Cl}{av tv bv:Value}{th root:Int}{S:Nat->Prop}(h:ef w ub kb c av tv th root bv)(hf:Fr w w' S)(hn:¬S ub):ef w' ub kb c av tv th root bv:=hf.same h hn
section
variable {w:World} {ub kb:Nat} {c:Cl} {av tv bv:Value} {th root:Int} (h:ef w ub kb c av tv th root bv)
include h
theorem ef.ck:w.cell? ⟨ub,0,none⟩=some (.pointer (some ⟨kb,0,none⟩)):=aa h rfl
theorem ef.cat:w.cell? ⟨ub,2,none⟩=some av:=aa h rfl
theorem ef.cto:w.cell? ⟨ub,3,none⟩=some tv:=aa h rfl
theorem ef.cty:w.cell? ⟨ub,4,none⟩=some (.int .i64 c.ty):=aa h rfl
theorem ef.cbits:w.cell? ⟨ub,5,none⟩=some (.int .i64 c.bits):=aa h rfl
theorem ef.ccount:w.cell? ⟨ub,6,none⟩=some (.int .i64 c.count):=aa h rfl
theorem ef.crights:w.cell? ⟨ub,7,none⟩=some (.int .i64 c.rights):=aa h rfl
theorem ef.cbadge:w.cell? ⟨ub,8,none⟩=some (.int .i64 c.badge):=aa h rfl
theorem ef.cvalue:w.cell? ⟨ub,9,none⟩=some (.int .i64 c.value):=aa h rfl
theorem ef.croot:w.cell? ⟨ub,12,none⟩=some (.int .i64 root):=aa h rfl
theorem ef.cbv:w.cell? ⟨ub,13,none⟩=some bv:=aa h rfl
theorem ef.lt:ub<w.heap.size:=(Array.getElem?_eq_some_iff.1 h).1
end
def an8 (e:Int):Value:=.iface 84 (.agg #[.int .i64 e])
def gup (e:Int):Ending:=.panicked [{v:=an8 e,recovered:=false}]
def jk (K:a_)(b x:Int):Ending:=if okK K b x then .returned (.agg #[.int .i64 b,.int .i64 x]) else gup 2
theorem a86 {w:World}{kb:Nat}{V:aj}(h:aw w kb V)(b:Int):(Instr.lookup 64 (.map (some V.nb)) (.int .i64 b) false).run Tryd.prog w=.ok (.int .i64 (bz V.ker b)) w:=by
 have:=h.nodes.look_run kp Tryd.underlying64 (z:=.int .i64 0) (by kernel_rfl) b false;simp only [ke] at this;rw [this];simp only [bz,aj.ker];cases aq b V.N<;>rfl
theorem tp (V:aj)(kb ub:Nat)(c:Cl)(av tv bv:Value)(th root:Int)(b x:Int)(w:World)(h:aw w kb V)(hu:ef w ub kb c av tv th root bv):
 Calls Tryd.prog 84 #[.pointer (some ⟨ub,0,none⟩),.int .i64 b,.int .i64 x] w fun e w'=>e=jk V.ker b x/\Fr w w' (fun _=>False):=by
 have hf:=(Fr.refl w (fun _=>False)).alloc (.cells #[.int .i64 0,.int .i64 0] 72);have h1:=h.frame hf (fun _ _=>id);have hrun:=a86 h1 b;have cu:=hu.ck;have cn:=h.cn;have hult:=World.block_lt_of_cell? w _ cu;have hklt:=World.block_lt_of_cell? w _ cn;have ha:jk V.ker b x=if 0<=x/\x<bz V.ker b then .returned (.agg #[.int .i64 b,.int .i64 x]) else gup 2:=by simp [jk,okK]
 rw [ha];clear ha;generalize bz V.ker b=n at hrun;by_cases hx0:x<0
 ·rw [if_neg (by omega)];have hx1:decide (x<0)=true:=by simpa using hx0
  go_enter Tryd.func84,Tryd.ntmps84
  go_wp2;exact ⟨rfl,rfl,hf⟩
 ·have hx1:decide (x<0)=false:=by simpa using hx0
  by_cases hx2:x<n
  ·rw [if_pos (by omega)];have hx3:¬n<=x:=by omega
   go_enter Tryd.func84,Tryd.ntmps84
   go_wp2;refine bodyPost_ret (v:=.agg #[.int .i64 b,.int .i64 x]) (by simp [results,Tryd.results84,go_sem]) rfl ⟨rfl,?_⟩;exact (Fr.refl _ _).alloc _
  ·rw [if_neg (by omega)];have hx3:n<=x:=by omega
   go_enter Tryd.func84,Tryd.ntmps84
   go_wp2;exact ⟨rfl,rfl,hf⟩
def j7:Option KCap->Value
 | some c=>c.val
 | none=>.nilIface
theorem bk {w:World}{kb:Nat}{V:aj}(h:aw w kb V)(s:Slot)(c:Bool):(Instr.lookup 61 (.map (some V.hb)) (.agg #[.int .i64 s.node,.int .i64 s.index]) c).run Tryd.prog w =
 .ok (if c then .tuple #[j7 (V.ker.held s),.bool (V.ker.held s).isSome] else j7 (V.ker.held s)) w:=by
 have:=h.held.look_run ep Tryd.underlying61 (z:=.nilIface) (by kernel_rfl) s c;simp only [Slot.val] at this;rw [this];simp only [aj.ker];cases aq s V.H<;>rfl
def nc (K:a_)(s:Slot):Ending:=
 match j9 K s with
 | some b=>.returned (.int .i64 b)
 | none=>gup 2
theorem ml (V:aj)(kb ub:Nat)(c:Cl)(av tv bv:Value)(th root:Int)(s:Slot)(w:World)(h:aw w kb V)(hu:ef w ub kb c av tv th root bv)(x y z:Int)(t:Bool)
 (hta:∀W,(Instr.typeAssert (j7 (V.ker.held s)) 80 111 true).run Tryd.prog W=.ok (.tuple #[.agg #[.int .i64 x,.int .i64 y,.int .i64 z],.bool t]) W) :
 Calls Tryd.prog 85 #[.pointer (some ⟨ub,0,none⟩),.agg #[.int .i64 s.node,.int .i64 s.index]] w fun e w'=>e=(if t then .returned (.int .i64 x) else gup 2)/\Fr w w' (fun _=>False):=by
 have hult:=hu.lt;have hklt:=h.fpLt (k:=kb) (.inl rfl);generalize hans:(if t then Ending.returned (Value.int IntKind.i64 x) else gup 2)=ans;go_enter Tryd.func85,Tryd.ntmps85
 go_wp2_with fail
 generalize hW0:w.alloc _=W0;have hf0:Fr w W0 (fun _=>False):=by rw [<- hW0];exact (Fr.refl _ _).alloc _
 have hb0:W0.heap[w.heap.size]?=some (.cells #[.int .i64 s.node,.int .i64 s.index] 72 (0,0)):=by rw [<- hW0];exact heap_alloc_new _ _
 clear hW0;have h0:=h.frame hf0 (fun _ _=>id);have hu0:=hu.frame hf0 id;have c1:=hu0.ck;have c2:=h0.ch;have c3:=aa (o:=0) hb0 rfl;have c4:=aa (o:=1) hb0 rfl;have hrun:=bk (h0.frame ((Fr.refl W0 (fun _=>False)).drew) (fun _ _=>id)) s false;have hf1:=(Fr.refl W0 (fun _=>False)).alloc (.cells #[.int .i64 0,.int .i64 0,.int .i64 0] 111);have hrun2:=bk (h0.frame hf1.drew (fun _ _=>id)) s false;have hlt0:ub<W0.heap.size:=hu0.lt;have hlt1:kb<W0.heap.size:=h0.fpLt (k:=kb) (.inl rfl);have hlt2:w.heap.size<W0.heap.size:=(Array.getElem?_eq_some_iff.1 hb0).1;simp only [Bool.false_eq_true,if_false] at hrun hrun2;generalize j7 (V.ker.held s)=hv at hrun hrun2 hta;go_region_held3 (fun w'=>w'.cell? ⟨ub,0,none⟩=some (.pointer (some ⟨kb,0,none⟩))/\w'.cell? ⟨kb,1024,none⟩=some (.map (some V.hb))/\w'.cell? ⟨w.heap.size,0,none⟩=some (.int .i64 s.node)/\w'.cell? ⟨w.heap.size,1,none⟩=some (.int .i64 s.index)) (go_keep) (fail)
 all_goals clear hrun hrun2 hta c1 c2 c3 c4 h0 hu0
 all_goals subst hans
 all_goals cases t
 all_goals (first | (go_wp2;go_ret;exact ⟨rfl,(hf0.alloc _).drew⟩) | (go_wp2;exact ⟨rfl,rfl,(hf0.alloc _).drew⟩))
theorem be7 (V:aj)(kb ub:Nat)(c:Cl)(av tv bv:Value)(th root:Int)(s:Slot)(w:World)(h:aw w kb V)(hu:ef w ub kb c av tv th root bv):
 Calls Tryd.prog 85 #[.pointer (some ⟨ub,0,none⟩),.agg #[.int .i64 s.node,.int .i64 s.index]] w fun e w'=>e=nc V.ker s/\Fr w w' (fun _=>False):=by
 cases hk:V.ker.held s with
 | none=>
  have:=ml V kb ub c av tv bv th root s w h hu 0 0 0 false (by rw [hk];exact ae7);simpa [nc,j9,hk] using this
 | some k=>
  cases k with
  | untyped b n m=>
   have:=ml V kb ub c av tv bv th root s w h hu 0 0 0 false (by rw [hk];exact jr _);simpa [nc,j9,hk] using this
  | node b n r=>
   have:=ml V kb ub c av tv bv th root s w h hu b n r true (by rw [hk];exact l7 _);simpa [nc,j9,hk] using this
  | endpoint b n r g=>
   have:=ml V kb ub c av tv bv th root s w h hu 0 0 0 false (by rw [hk];exact jb _);simpa [nc,j9,hk] using this
  | task b n r=>
   have:=ml V kb ub c av tv bv th root s w h hu 0 0 0 false (by rw [hk];exact ni _);simpa [nc,j9,hk] using this
  | frame b n r=>
   have:=ml V kb ub c av tv bv th root s w h hu 0 0 0 false (by rw [hk];exact jz _);simpa [nc,j9,hk] using this
end Go.Proofs.YtdpjgflemddekaaDoor
