/- The code: tree.add. -/
import Derived.Test.YtdpjgflemddekaaGreatDoorMKeyA
import Derived.Deep.AppendLies
import Derived.Deep.RegionHeld3
set_option maxRecDepth 100000
set_option maxHeartbeats 1000000
namespace Go.Proofs.YtdpjgflemddekaaGreatDoor
open Go.RowKit
theorem infoSlot:(Tryz.prog.info? 71).map (fun i=>(i.zero,i.size,i.bytes))=some (some (.agg #[.int .i64 0,.int .i64 0]),2,16):=by kernel_rfl
theorem zeroStand (w:World):(zeroValue 98).run Tryz.prog w=.ok (.agg #[.int .i64 0,.int .i64 0,.slice none 0 0]) w:=by kernel_rfl
theorem bw {w:World}{b t s n:Nat}{v:Value}{xs:List Value}(h:w.ownsRow b t s v n xs):∃A cap,v=.slice A n cap:=by
 rcases h.2 with ⟨h0,h1⟩ | ⟨g,cap,cur,hv,_⟩
 ·subst h1;exact ⟨none,0,h0⟩
 ·exact ⟨_,cap,hv⟩
theorem add_any (M:List (Slot×RStd))(tb:Nat)(t p:Slot)(w:World)(h:TreeAt w tb M)(hl:∀x,ak p M=some x->x.kids.length<1000000):
 Calls Tryz.prog 31 #[.map (some tb),.agg #[.int .i64 t.node,.int .i64 t.index],.agg #[.int .i64 p.node,.int .i64 p.index]] w fun e w'=>e=.returned (.tuple #[])/\
  ∃M',TreeAt w' tb M'/\bu M'=addS (bu M) t p/\Fr w w' (bh tb M)/\(∀k,bh tb M' k->bh tb M k\/w.heap.size<=k):=by
 have hlt:=h.map.lt;obtain ⟨i0,hi0,hz0,hz1,hz2⟩:=info_parts infoSlot;go_enter Tryz.func31,Tryz.ntmps31
 go_wp2_with (at_mapUpdate;go_must (refine wpList_put_m _ rfl _ _ _ 61 rfl c_ Tryz.underlying61 (m:=M) (enc:=RStd.val) rfl ?_ t rfl ⟨p,[],.slice none 0 0⟩ rfl ?_))
 ·exact h.map.frame (((Fr.refl w (fun _=>False)).alloc _).alloc _) (by simp)
 generalize hW0:(w.alloc _).alloc _=W0;have hf0:Fr w W0 (fun _=>False):=by rw [<- hW0];exact ((Fr.refl _ _).alloc _).alloc _
 have hs0:W0.heap.size=w.heap.size+2:=by rw [<- hW0];simp
 have hbt:W0.heap[w.heap.size]?=some (.cells #[.int .i64 t.node,.int .i64 t.index] 71 (0,0)):=by
  rw [<- hW0,heap_alloc_old _ _ (by simp)];exact heap_alloc_new _ _
 have hbp:W0.heap[w.heap.size+1]?=some (.cells #[.int .i64 p.node,.int .i64 p.index] 71 (0,0)):=by
  rw [<- hW0];have:=heap_alloc_new (w.alloc (.cells #[.int .i64 t.node,.int .i64 t.index] 71)) (.cells #[.int .i64 p.node,.int .i64 p.index] 71);simpa using this
 clear hW0;intro W1 hm1 hf1 hs1;have h0:TreeAt W0 tb M:=h.frame hf0 (fun _ _=>id);have h1:TreeAt W1 tb (putM t ⟨p,[],.slice none 0 0⟩ M):=TreeAt.put hm1 hf1 (fun s y hy _=>h0.rest s y hy) h0.apart (World.ownsRow_nil _ _ _ _) (by simp) (fun _ _ _ _ k hk=>by cases hk) (by simp [Value.ownBlock]);have hbt1:=hf1.same hbt (by omega);have hbp1:=hf1.same hbp (by omega);have hst1:bu (putM t ⟨p,[],.slice none 0 0⟩ M)=upd (bu M) t (some ⟨p,[]⟩):=stOf_put _ _ _;have hlen1:∀x,ak p (putM t ⟨p,[],.slice none 0 0⟩ M)=some x->x.kids.length<1000000:=by
  intro x hx;rw [look_put] at hx;split at hx
  ·cases hx;simp
  ·exact hl x hx
 have hfp1:∀k,bh tb (putM t ⟨p,[],.slice none 0 0⟩ M) k->bh tb M k:=by
  rintro k (rfl | ⟨s,x,hx,hk⟩)
  ·exact .inl rfl
  ·rw [look_put] at hx;split at hx
   ·cases hx;cases hk
   ·exact .inr ⟨s,x,hx,hk⟩
 generalize putM t ⟨p,[],.slice none 0 0⟩ M=M1 at hm1 h1 hst1 hlen1 hfp1;have hF1:Fr w W1 (bh tb M):=(hf0.mono (fun _=>False.elim)).step hf1 (fun k hk=>.inl (.inl hk))
 have hsz1:W1.heap.size=w.heap.size+2:=by omega
 obtain ⟨x,hx,hxo,hxl,hxa,hxb,hxk⟩:∃x:RStd,orZero RStd.val (.agg #[.int .i64 0,.int .i64 0,.slice none 0 0]) (ak p M1)=x.val/\W1.ownsRow 0 71 2 x.sv x.kids.length (bf x.kids)/\x.kids.length<1000000/\
  (∀s y,ak s M1=some y->s≠p->∀k,x.sv.ownBlock=some k->y.sv.ownBlock≠some k)/\(∀k,x.sv.ownBlock=some k->bh tb M1 k/\k≠tb)/\(bu M1 p).getD ⟨⟨0,0⟩,[]⟩=x.std:=by
  cases hlk:ak p M1 with
  | none=>exact ⟨⟨⟨0,0⟩,[],.slice none 0 0⟩,rfl,World.ownsRow_nil _ _ _ _,by simp,(fun _ _ _ _ k hk=>by cases hk),(fun k hk=>by cases hk),by simp [bu,hlk,RStd.std]⟩
  | some x=>exact ⟨x,rfl,h1.own p x hlk,hlen1 x hlk,fun s y hy hne=>h1.apart p x s y hlk hy (Ne.symm hne),fun k hk=>⟨.inr ⟨p,x,hlk,hk⟩,fun e=>h1.ne hlk (e▸hk)⟩,by simp [bu,hlk]⟩
 have p0:=aa (o:=0) hbp1 rfl;have p1:=aa (o:=1) hbp1 rfl;have t0:=aa (o:=0) hbt1 rfl;have t1:=aa (o:=1) hbt1 rfl;obtain ⟨xp,xk,xs⟩:=x;simp only [RStd.val] at hx;dsimp only at hxo hxl hxa hxb hxk;clear hbt hbp hf0 hf1 hs0 hs1 h0 hlen1 hm1;obtain ⟨A,cap,rfl⟩:=bw hxo;go_wp2_with (first
  |(at_lookup;go_must (refine wpList_look_m _ rfl _ _ 61 false rfl c_ Tryz.underlying61 (zeroStand _) (m:=M1) (enc:=RStd.val) rfl h1.map p rfl ?_);simp only [Bool.false_eq_true,if_false];rw [hx])
  |(at_builtin;go_must (refine wpList_append_lies _ rfl _ _ 96 rfl 0 71 i0 _ 2 16 Tryz.underlying96 hi0 hz0 hz1 hz2 rfl (by decide) (.slice A xk.length cap) xk.length (bf xk) rfl ((hxo.alloc _).alloc _) ⟨_,0,none⟩ 1 1 [.int .i64 t.node,.int .i64 t.index] rfl rfl (news_at _ _ _ _ (by simp [hsz1])) (Slot.one t) (by decide) (by unfold maxLen;omega) (by omega) (Nat.zero_le _) (w.heap.size+4) (by simp [hsz1]) ?_)))
 intro g gc W3 hown3 hg3 hat3 hlt3;generalize hW2:(W1.alloc _).alloc _=W2 at hg3;have hf2:Fr W1 W2 (fun _=>False):=by rw [<- hW2];exact ((Fr.refl _ _).alloc _).alloc _
 have hs2:W2.heap.size=w.heap.size+4:=by rw [<- hW2];simp [hsz1]
 have hb2:W2.heap[w.heap.size+2]?=some (.cells #[.int .i64 xp.node,.int .i64 xp.index,.slice A xk.length cap] 98 (0,0)):=by
  rw [<- hW2,heap_alloc_old _ _ (by simp;omega),<- hsz1];exact heap_alloc_new _ _
 clear hW2;have hxlt:∀k,(Value.slice A xk.length cap).ownBlock=some k->k<w.heap.size:=fun k hk=>h.fpLt (hfp1 k (hxb k hk).1)
 have hb3:W3.heap[w.heap.size+2]?=some (.cells #[.int .i64 xp.node,.int .i64 xp.index,.slice A xk.length cap] 98 (0,0)):=by
  rw [hg3.block _ (by omega) (fun e=>by have:=hxlt _ e.symm;omega)];exact hb2
 have hf3:Fr W1 W3 (fun k=>(Value.slice A xk.length cap).ownBlock=some k):=(hf2.mono (fun _=>False.elim)).grown hg3 (fun k hk=>.inl hk)
 have hpn:¬(Value.slice A xk.length cap).ownBlock=some (w.heap.size+1):=fun e=>by have:=hxlt _ e;omega
 have p0':=aa (o:=0) (hf3.same hbp1 hpn) rfl;have p1':=aa (o:=1) (hf3.same hbp1 hpn) rfl;have k0:=aa (o:=0) hb3 rfl;have k1:=aa (o:=1) hb3 rfl;have k2:=aa (o:=2) hb3 rfl;have z2:W3.frozen? ⟨w.heap.size+2,2,none⟩=false:=ab hb3;clear p0 p1 t0 t1 hg3;go_wp2_with (at_mapUpdate;go_must (refine wpList_put_m _ rfl _ _ _ 61 rfl c_ Tryz.underlying61 (m:=M1) (enc:=RStd.val) rfl ?_ p rfl ⟨xp,xk++[t],.slice (some ⟨g,0,none⟩) (xk.length+1) gc⟩ rfl ?_))
 ·exact (h1.map.frame hf3 (fun e=>(hxb _ e).2 rfl)).frame (Fr.set1 _ _ _ _) (by omega)
 generalize hW4:W3.setCell _ _=W4;have hf4:Fr W3 W4 (fun k=>k=w.heap.size+2):=by rw [<- hW4];exact Fr.set1 _ _ _ _
 clear hW4;intro W5 hm5 hf5 hs5;have hg5:(Value.slice (some ⟨g,0,none⟩) (xk.length+1) gc).ownBlock=some g:=rfl;have hgn:g≠w.heap.size+2:=by
  rcases hat3 with e | e
  ·have:=hxlt _ e;omega
  ·omega
 have hgt:g≠tb:=by
  rcases hat3 with e | e
  ·exact (hxb _ e).2
  ·omega
 have h5:TreeAt W5 tb (putM p ⟨xp,xk++[t],.slice (some ⟨g,0,none⟩) (xk.length+1) gc⟩ M1):=by
  refine TreeAt.put hm5 hf5 ?_ h1.apart ?_ (by simp;omega) ?_ ?_
  ·intro s y hy hne;refine ⟨hf4.owns (hf3.owns (h1.own s y hy) (fun k hk e=>hxa s y hy hne k e hk)) (fun k hk e=>?_),h1.len s y hy,h1.ne hy⟩;have:=h.fpLt (hfp1 k (.inr ⟨s,y,hy,hk⟩));omega
  ·have:=hf4.owns hown3 (fun k hk e=>by rw [hg5] at hk;cases hk;exact hgn e);rw [rowS_append];simpa [bf,Slot.vals] using this
  ·intro s y hy hne k hk;rw [hg5] at hk;cases hk
   rcases hat3 with e | e
   ·exact hxa s y hy hne _ e
   ·intro e2;have:=h.fpLt (hfp1 _ (.inr ⟨s,y,hy,e2⟩));omega
  ·rw [hg5];exact fun e=>hgt (by cases e;rfl)
 have hF:Fr w W5 (bh tb M):=by
  refine ((hF1.step hf3 (fun k hk=>.inl (hfp1 k (hxb k hk).1))).step hf4 (fun k hk=>.inr (by omega))).step hf5 (fun k hk=>.inl (.inl hk))
 have hst:bu (putM p ⟨xp,xk++[t],.slice (some ⟨g,0,none⟩) (xk.length+1) gc⟩ M1)=addS (bu M) t p:=by
  rw [stOf_put,hst1];rw [hst1] at hxk;simp only [addS];rw [hxk];rfl
 have hfp:∀k,bh tb (putM p ⟨xp,xk++[t],.slice (some ⟨g,0,none⟩) (xk.length+1) gc⟩ M1) k->bh tb M k\/w.heap.size<=k:=by
  rintro k (rfl | ⟨s,x,hx,hk⟩)
  ·exact .inl (.inl rfl)
  ·rw [look_put] at hx;split at hx
   ·cases hx
    rw [hg5] at hk;cases hk
    rcases hat3 with e | e
    ·exact .inl (hfp1 _ (hxb _ e).1)
    ·exact .inr (by omega)
   ·exact .inl (hfp1 k (.inr ⟨s,x,hx,hk⟩))
 generalize putM p ⟨xp,xk++[t],.slice (some ⟨g,0,none⟩) (xk.length+1) gc⟩ M1=M5 at hm5 h5 hst hfp;clear hm5 hf5 hs5 hf4 hf3 k0 k1 k2 p0' p1' z2 hb3 hx hxo hxa hxb hxk hown3;go_wp2;go_end0;exact ⟨rfl,M5,h5,hst,hF,hfp⟩
theorem box2 {w w':World}{S:Nat->Prop}(hf:Fr w.drew w' S){b:Nat}{x y:Value}{t:TypeId}(hb:w.heap[b]?=some (.cells #[x,y] t (0,0)))(hn:¬S b):w'.cell? ⟨b,0,none⟩=some x/\w'.cell? ⟨b,1,none⟩=some y:=
 ⟨aa (o:=0) (hf.same (w:=w.drew) hb hn) rfl,aa (o:=1) (hf.same (w:=w.drew) hb hn) rfl⟩
theorem klay_any (V:KerV)(kb:Nat)(t p:Slot)(c:KCap)(w:World)(h:KerAt w kb V)(hl:∀x,ak p V.M=some x->x.kids.length<1000000):
 Calls Tryz.prog 18 #[.pointer (some ⟨kb,0,none⟩),.agg #[.int .i64 t.node,.int .i64 t.index],c.val,.agg #[.int .i64 p.node,.int .i64 p.index]] w fun e w'=>e=.returned (.tuple #[])/\KOut w kb V (V.ker.lay t c p) w':=by
 have hch:=h.ch;have hct:=h.ct;have hklt:kb<w.heap.size:=World.block_lt_of_cell? w _ hch;go_enter Tryz.func18,Tryz.ntmps18
 go_wp2_with fail
 generalize hW0:(w.alloc _).alloc _=W0;have hf0:Fr w W0 (fun _=>False):=by rw [<- hW0];exact ((Fr.refl _ _).alloc _).alloc _
 have hs0:W0.heap.size=w.heap.size+2:=by rw [<- hW0];simp
 have hbt:W0.heap[w.heap.size]?=some (.cells #[.int .i64 t.node,.int .i64 t.index] 71 (0,0)):=by
  rw [<- hW0,heap_alloc_old _ _ (by simp)];exact heap_alloc_new _ _
 have hbp:W0.heap[w.heap.size+1]?=some (.cells #[.int .i64 p.node,.int .i64 p.index] 71 (0,0)):=by
  rw [<- hW0];have:=heap_alloc_new (w.alloc (.cells #[.int .i64 t.node,.int .i64 t.index] 71)) (.cells #[.int .i64 p.node,.int .i64 p.index] 71);simpa using this
 clear hW0;have h0:KerAt W0 kb V:=h.frame hf0 (fun _ _=>id);have hd:Fr W0 W0.drew (fun _=>False):=(Fr.refl _ _).drew;obtain ⟨W1,hrun,hm1,hf1,hs1⟩:=(h0.frame hd (fun _ _=>id)).held.put_run c_ Tryz.underlying59 t c;simp only [Slot.val] at hrun;have h1:KerAt W1 kb {V with H:=putM t c V.H}:=(h0.frame hd (fun _ _=>id)).putH hm1 hf1;have hb1:=hf1.same (hd.same hbt id) (fun e=>by have:=h.held.lt;omega);have hb2:=hf1.same (hd.same hbp id) (fun e=>by have:=h.held.lt;omega);have c0:=h0.ch;have t0:=aa (o:=0) hbt rfl;have t1:=aa (o:=1) hbt rfl;have c1':=h1.ch;have u0:=aa (o:=0) hb1 rfl;have u1:=aa (o:=1) hb1 rfl;go_region_held3 (fun w'=>w'.cell? ⟨kb,1024,none⟩=some (.map (some V.hb))/\w'.cell? ⟨w.heap.size,0,none⟩=some (.int .i64 t.node)/\w'.cell? ⟨w.heap.size,1,none⟩=some (.int .i64 t.index)) (go_keep) (fail)
 clear c0 t0 t1 c1' hrun;have hF1:Fr w W1 (V.fp kb):=((hf0.step hd (fun _=>False.elim)).mono (fun _=>False.elim)).step hf1 (fun k hk=>.inl (.inr (.inl hk)))
 have hsz1:W1.heap.size=w.heap.size+2:=by simp at hs1;omega
 have c1:=h1.ct;have p0:=aa (o:=0) hb2 rfl;have p1:=aa (o:=1) hb2 rfl;have hd1:Fr W1 W1.drew (fun _=>False):=(Fr.refl _ _).drew;have h2:=h1.frame hd1 (fun _ _=>id);have no:∀k,w.heap.size<=k->¬bh V.tb V.M k:=fun k hk hk2=>by have:=h.tree.fpLt hk2;omega
 go_wp2_with fail
 go_region_held3 (fun w'=>w'.cell? ⟨kb,1025,none⟩=some (.map (some V.tb))/\w'.cell? ⟨w.heap.size,0,none⟩=some (.int .i64 t.node)/\w'.cell? ⟨w.heap.size,1,none⟩=some (.int .i64 t.index)/\w'.cell? ⟨w.heap.size+1,0,none⟩=some (.int .i64 p.node)/\w'.cell? ⟨w.heap.size+1,1,none⟩=some (.int .i64 p.index)) (go_keep)
  ((go_at_call 31;refine (add_any V.M V.tb t p _ h2.tree hl).mono ?_;rintro e W3 ⟨rfl,M',hM,hst,hfM,hrM⟩;have h3:=h2.putM hM hfM hrM;have c3:=h3.ct;obtain ⟨g1,g2⟩:=box2 hfM hb1 (no _ (Nat.le_refl _));obtain ⟨g3,g4⟩:=box2 hfM hb2 (no _ (Nat.le_succ _))))
 have hF:Fr w W3 (V.fp kb):=(hF1.step hd1 (fun _=>False.elim)).step hfM (fun k hk=>.inl (.inr (.inr (.inr (.inr (.inr (.inl hk)))))))
 have hK:KerV.ker {V with H:=putM t c V.H,M:=M'}=V.ker.lay t c p:=by
  simp only [KerV.ker,Ker.lay,look_put_fun,hst]
 have hfp:∀k,KerV.fp kb {V with H:=putM t c V.H,M:=M'} k->V.fp kb k\/w.heap.size<=k:=by
  rintro k (e | e | e | e | e | e | e)
  ·exact .inl (.inl e)
  ·exact .inl (.inr (.inl e))
  ·exact .inl (.inr (.inr (.inl e)))
  ·exact .inl (.inr (.inr (.inr (.inl e))))
  ·exact .inl (.inr (.inr (.inr (.inr (.inl e)))))
  ·rcases hrM k e with e2 | e2
   ·exact .inl (.inr (.inr (.inr (.inr (.inr (.inl e2))))))
   ·exact .inr (by simp at e2;omega)
  ·exact .inl (.inr (.inr (.inr (.inr (.inr (.inr e))))))
 clear c1 c3 g1 g2 g3 g4 p0 p1 u0 u1 hM hst hfM hrM;go_wp2;go_end0;exact ⟨rfl,_,h3,hK,rfl,hF,hfp⟩
end Go.Proofs.YtdpjgflemddekaaGreatDoor
