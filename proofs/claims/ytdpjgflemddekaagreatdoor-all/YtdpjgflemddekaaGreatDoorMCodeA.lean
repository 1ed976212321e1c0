/- The code: tree.add. -/
import Derived.Test.YtdpjgflemddekaaGreatDoorMKeyA
import Derived.Deep.RegionHeld3
import Derived.Laws.EntriesVeiled
set_option maxRecDepth 100000
set_option maxHeartbeats 1000000
namespace Go.Proofs.YtdpjgflemddekaaGreatDoor
open Go.RowKit
theorem ol:(Tryz.prog.info? 71).map (fun i=>(i.zero,i.size,i.bytes))=some (some (.agg #[.int .i64 0,.int .i64 0]),2,16):=by kernel_rfl
theorem ka (w:World):(zeroValue 98).run Tryz.prog w=.ok (.agg #[.int .i64 0,.int .i64 0,.slice none 0 0]) w:=by kernel_rfl
theorem cz {w:World}{b t s n:Nat}{v:Value}{xs:List Value}(h:w.ownsRow b t s v n xs):∃A cap,v=.slice A n cap:=by
 rcases h.2 with ⟨h0,h1⟩ | ⟨g,cap,cur,hv,_⟩
 ·subst h1;exact ⟨none,0,h0⟩
 ·exact ⟨_,cap,hv⟩
theorem b05 (M:List (Slot×bj))(tb:Nat)(t p:Slot)(w:World)(h:bg w tb M)(hl:∀x,am p M=some x->x.kids.length<1000000):
 Calls Tryz.prog 31 #[.map (some tb),.agg #[.int .i64 t.node,.int .i64 t.index],.agg #[.int .i64 p.node,.int .i64 p.index]] w fun e w'=>e=.returned (.tuple #[])/\
  ∃M',bg w' tb M'/\cx M'=addS (cx M) t p/\Fr w w' (br tb M)/\(∀k,br tb M' k->br tb M k\/w.heap.size<=k):=by
 have hlt:=h.map.lt;obtain ⟨i0,hi0,hz0,hz1,hz2⟩:=info_parts ol;go_enter Tryz.func31,Tryz.ntmps31
 go_wp2_with (at_mapUpdate;go_must (refine ls _ rfl _ _ _ 61 rfl em Tryz.underlying61 (m:=M) (enc:=bj.val) rfl ?_ t rfl ⟨p,[],.slice none 0 0⟩ rfl ?_))
 ·exact h.map.frame (((Fr.refl w (fun _=>False)).alloc _).alloc _) (by simp)
 generalize hW0:(w.alloc _).alloc _=W0;have hf0:Fr w W0 (fun _=>False):=by rw [<- hW0];exact ((Fr.refl _ _).alloc _).alloc _
 have hs0:W0.heap.size=w.heap.size+2:=by rw [<- hW0];simp
 have hbt:W0.heap[w.heap.size]?=some (.cells #[.int .i64 t.node,.int .i64 t.index] 71 (0,0)):=by
  rw [<- hW0,heap_alloc_old _ _ (by simp)];exact heap_alloc_new _ _
 have hbp:W0.heap[w.heap.size+1]?=some (.cells #[.int .i64 p.node,.int .i64 p.index] 71 (0,0)):=by
  rw [<- hW0];have:=heap_alloc_new (w.alloc (.cells #[.int .i64 t.node,.int .i64 t.index] 71)) (.cells #[.int .i64 p.node,.int .i64 p.index] 71);simpa using this
 clear hW0;intro W1 hm1 hf1 hs1;have h0:bg W0 tb M:=h.frame hf0 (fun _ _=>id);have h1:bg W1 tb (putM t ⟨p,[],.slice none 0 0⟩ M):=bg.put hm1 hf1 (fun s y hy _=>h0.rest s y hy) h0.apart (World.ownsRow_nil _ _ _ _) (by simp) (fun _ _ _ _ k hk=>by cases hk) (by simp [Value.ownBlock]);have hbt1:=hf1.same hbt (by omega);have hbp1:=hf1.same hbp (by omega);have hst1:cx (putM t ⟨p,[],.slice none 0 0⟩ M)=upd (cx M) t (some ⟨p,[]⟩):=ru _ _ _;have hlen1:∀x,am p (putM t ⟨p,[],.slice none 0 0⟩ M)=some x->x.kids.length<1000000:=by
  intro x hx;rw [g_] at hx;split at hx
  ·cases hx;simp
  ·exact hl x hx
 have hfp1:∀k,br tb (putM t ⟨p,[],.slice none 0 0⟩ M) k->br tb M k:=by
  rintro k (rfl | ⟨s,x,hx,hk⟩)
  ·exact .inl rfl
  ·rw [g_] at hx;split at hx
   ·cases hx;cases hk
   ·exact .inr ⟨s,x,hx,hk⟩
 generalize putM t ⟨p,[],.slice none 0 0⟩ M=M1 at hm1 h1 hst1 hlen1 hfp1;have hF1:Fr w W1 (br tb M):=(hf0.mono (fun _=>False.elim)).step hf1 (fun k hk=>.inl (.inl hk))
 have hsz1:W1.heap.size=w.heap.size+2:=by omega
 obtain ⟨x,hx,hxo,hxl,hxa,hxb,hxk⟩:∃x:bj,iy bj.val (.agg #[.int .i64 0,.int .i64 0,.slice none 0 0]) (am p M1)=x.val/\W1.ownsRow 0 71 2 x.sv x.kids.length (bo x.kids)/\x.kids.length<1000000/\
  (∀s y,am s M1=some y->s≠p->∀k,x.sv.ownBlock=some k->y.sv.ownBlock≠some k)/\(∀k,x.sv.ownBlock=some k->br tb M1 k/\k≠tb)/\(cx M1 p).getD ⟨⟨0,0⟩,[]⟩=x.std:=by
  cases hlk:am p M1 with
  | none=>exact ⟨⟨⟨0,0⟩,[],.slice none 0 0⟩,rfl,World.ownsRow_nil _ _ _ _,by simp,(fun _ _ _ _ k hk=>by cases hk),(fun k hk=>by cases hk),by simp [cx,hlk,bj.std]⟩
  | some x=>exact ⟨x,rfl,h1.own p x hlk,hlen1 x hlk,fun s y hy hne=>h1.apart p x s y hlk hy (Ne.symm hne),fun k hk=>⟨.inr ⟨p,x,hlk,hk⟩,fun e=>h1.ne hlk (e▸hk)⟩,by simp [cx,hlk]⟩
 have p0:=aa (o:=0) hbp1 rfl;have p1:=aa (o:=1) hbp1 rfl;have t0:=aa (o:=0) hbt1 rfl;have t1:=aa (o:=1) hbt1 rfl;obtain ⟨xp,xk,xs⟩:=x;simp only [bj.val] at hx;dsimp only at hxo hxl hxa hxb hxk;clear hbt hbp hf0 hf1 hs0 hs1 h0 hlen1 hm1;obtain ⟨A,cap,rfl⟩:=cz hxo;go_wp2_with (first
  |(at_lookup;go_must (refine ij _ rfl _ _ 61 false rfl em Tryz.underlying61 (ka _) (m:=M1) (enc:=bj.val) rfl h1.map p rfl ?_);simp only [Bool.false_eq_true,if_false];rw [hx])
  |(at_builtin;go_must (refine wpList_append_lies _ rfl _ _ 96 rfl 0 71 i0 _ 2 16 Tryz.underlying96 hi0 hz0 hz1 hz2 rfl (by decide) (.slice A xk.length cap) xk.length (bo xk) rfl ((hxo.alloc _).alloc _) ⟨_,0,none⟩ 1 1 [.int .i64 t.node,.int .i64 t.index] rfl rfl (xf _ _ _ _ (by simp [hsz1])) (Slot.one t) (by decide) (by unfold maxLen;omega) (by omega) (Nat.zero_le _) (w.heap.size+4) (by simp [hsz1]) ?_)))
 intro g gc W3 hown3 hg3 hat3 hlt3;generalize hW2:(W1.alloc _).alloc _=W2 at hg3;have hf2:Fr W1 W2 (fun _=>False):=by rw [<- hW2];exact ((Fr.refl _ _).alloc _).alloc _
 have hs2:W2.heap.size=w.heap.size+4:=by rw [<- hW2];simp [hsz1]
 have hb2:W2.heap[w.heap.size+2]?=some (.cells #[.int .i64 xp.node,.int .i64 xp.index,.slice A xk.length cap] 98 (0,0)):=by
  rw [<- hW2,heap_alloc_old _ _ (by simp;omega),<- hsz1];exact heap_alloc_new _ _
 clear hW2;have hxlt:∀k,(Value.slice A xk.length cap).ownBlock=some k->k<w.heap.size:=fun k hk=>h.fpLt (hfp1 k (hxb k hk).1)
 have hb3:W3.heap[w.heap.size+2]?=some (.cells #[.int .i64 xp.node,.int .i64 xp.index,.slice A xk.length cap] 98 (0,0)):=by
  rw [hg3.block _ (by omega) (fun e=>by have:=hxlt _ e.symm;omega)];exact hb2
 have hf3:Fr W1 W3 (fun k=>(Value.slice A xk.length cap).ownBlock=some k):=(hf2.mono (fun _=>False.elim)).grown hg3 (fun k hk=>.inl hk)
 have hpn:¬(Value.slice A xk.length cap).ownBlock=some (w.heap.size+1):=fun e=>by have:=hxlt _ e;omega
 have p0':=aa (o:=0) (hf3.same hbp1 hpn) rfl;have p1':=aa (o:=1) (hf3.same hbp1 hpn) rfl;have k0:=aa (o:=0) hb3 rfl;have k1:=aa (o:=1) hb3 rfl;have k2:=aa (o:=2) hb3 rfl;have z2:W3.frozen? ⟨w.heap.size+2,2,none⟩=false:=ab hb3;clear p0 p1 t0 t1 hg3;go_wp2_with (at_mapUpdate;go_must (refine ls _ rfl _ _ _ 61 rfl em Tryz.underlying61 (m:=M1) (enc:=bj.val) rfl ?_ p rfl ⟨xp,xk++[t],.slice (some ⟨g,0,none⟩) (xk.length+1) gc⟩ rfl ?_))
 ·exact (h1.map.frame hf3 (fun e=>(hxb _ e).2 rfl)).frame (Fr.set1 _ _ _ _) (by omega)
 generalize hW4:W3.setCell _ _=W4;have hf4:Fr W3 W4 (fun k=>k=w.heap.size+2):=by rw [<- hW4];exact Fr.set1 _ _ _ _
 clear hW4;intro W5 hm5 hf5 hs5;have hg5:(Value.slice (some ⟨g,0,none⟩) (xk.length+1) gc).ownBlock=some g:=rfl;have hgn:g≠w.heap.size+2:=by
  rcases hat3 with e | e
  ·have:=hxlt _ e;omega
  ·omega
 have hgt:g≠tb:=by
  rcases hat3 with e | e
  ·exact (hxb _ e).2
  ·omega
 have h5:bg W5 tb (putM p ⟨xp,xk++[t],.slice (some ⟨g,0,none⟩) (xk.length+1) gc⟩ M1):=by
  refine bg.put hm5 hf5 ?_ h1.apart ?_ (by simp;omega) ?_ ?_
  ·intro s y hy hne;refine ⟨hf4.owns (hf3.owns (h1.own s y hy) (fun k hk e=>hxa s y hy hne k e hk)) (fun k hk e=>?_),h1.len s y hy,h1.ne hy⟩;have:=h.fpLt (hfp1 k (.inr ⟨s,y,hy,hk⟩));omega
  ·have:=hf4.owns hown3 (fun k hk e=>by rw [hg5] at hk;cases hk;exact hgn e);rw [ff];simpa [bo,Slot.vals] using this
  ·intro s y hy hne k hk;rw [hg5] at hk;cases hk
   rcases hat3 with e | e
   ·exact hxa s y hy hne _ e
   ·intro e2;have:=h.fpLt (hfp1 _ (.inr ⟨s,y,hy,e2⟩));omega
  ·rw [hg5];exact fun e=>hgt (by cases e;rfl)
 have hF:Fr w W5 (br tb M):=by
  refine ((hF1.step hf3 (fun k hk=>.inl (hfp1 k (hxb k hk).1))).step hf4 (fun k hk=>.inr (by omega))).step hf5 (fun k hk=>.inl (.inl hk))
 have hst:cx (putM p ⟨xp,xk++[t],.slice (some ⟨g,0,none⟩) (xk.length+1) gc⟩ M1)=addS (cx M) t p:=by
  rw [ru,hst1];rw [hst1] at hxk;simp only [addS];rw [hxk];rfl
 have hfp:∀k,br tb (putM p ⟨xp,xk++[t],.slice (some ⟨g,0,none⟩) (xk.length+1) gc⟩ M1) k->br tb M k\/w.heap.size<=k:=by
  rintro k (rfl | ⟨s,x,hx,hk⟩)
  ·exact .inl (.inl rfl)
  ·rw [g_] at hx;split at hx
   ·cases hx
    rw [hg5] at hk;cases hk
    rcases hat3 with e | e
    ·exact .inl (hfp1 _ (hxb _ e).1)
    ·exact .inr (by omega)
   ·exact .inl (hfp1 k (.inr ⟨s,x,hx,hk⟩))
 generalize putM p ⟨xp,xk++[t],.slice (some ⟨g,0,none⟩) (xk.length+1) gc⟩ M1=M5 at hm5 h5 hst hfp;clear hm5 hf5 hs5 hf4 hf3 k0 k1 k2 p0' p1' z2 hb3 hx hxo hxa hxb hxk hown3;go_wp2;go_end0;exact ⟨rfl,M5,h5,hst,hF,hfp⟩
theorem ah3 {w w':World}{S:Nat->Prop}(hf:Fr w.drew w' S){b:Nat}{x y:Value}{t:TypeId}(hb:w.heap[b]?=some (.cells #[x,y] t (0,0)))(hn:¬S b):w'.cell? ⟨b,0,none⟩=some x/\w'.cell? ⟨b,1,none⟩=some y:=
 ⟨aa (o:=0) (hf.same (w:=w.drew) hb hn) rfl,aa (o:=1) (hf.same (w:=w.drew) hb hn) rfl⟩
theorem qy (V:ah)(kb:Nat)(t p:Slot)(c:KCap)(w:World)(h:aq w kb V)(hl:∀x,am p V.M=some x->x.kids.length<1000000):
 Calls Tryz.prog 18 #[.pointer (some ⟨kb,0,none⟩),.agg #[.int .i64 t.node,.int .i64 t.index],c.val,.agg #[.int .i64 p.node,.int .i64 p.index]] w fun e w'=>e=.returned (.tuple #[])/\kg w kb V (V.ker.lay t c p) w':=by
 have hch:=h.ch;have hct:=h.ct;have hklt:kb<w.heap.size:=World.block_lt_of_cell? w _ hch;go_enter Tryz.func18,Tryz.ntmps18
 go_wp2_with fail
 generalize hW0:(w.alloc _).alloc _=W0;have hf0:Fr w W0 (fun _=>False):=by rw [<- hW0];exact ((Fr.refl _ _).alloc _).alloc _
 have hs0:W0.heap.size=w.heap.size+2:=by rw [<- hW0];simp
 have hbt:W0.heap[w.heap.size]?=some (.cells #[.int .i64 t.node,.int .i64 t.index] 71 (0,0)):=by
  rw [<- hW0,heap_alloc_old _ _ (by simp)];exact heap_alloc_new _ _
 have hbp:W0.heap[w.heap.size+1]?=some (.cells #[.int .i64 p.node,.int .i64 p.index] 71 (0,0)):=by
  rw [<- hW0];have:=heap_alloc_new (w.alloc (.cells #[.int .i64 t.node,.int .i64 t.index] 71)) (.cells #[.int .i64 p.node,.int .i64 p.index] 71);simpa using this
 clear hW0;have h0:aq W0 kb V:=h.frame hf0 (fun _ _=>id);have hd:Fr W0 W0.drew (fun _=>False):=(Fr.refl _ _).drew;obtain ⟨W1,hrun,hm1,hf1,hs1⟩:=(h0.frame hd (fun _ _=>id)).held.put_run em Tryz.underlying59 t c;simp only [Slot.val] at hrun;have h1:aq W1 kb {V with H:=putM t c V.H}:=(h0.frame hd (fun _ _=>id)).putH hm1 hf1;have hb1:=hf1.same (hd.same hbt id) (fun e=>by have:=h.held.lt;omega);have hb2:=hf1.same (hd.same hbp id) (fun e=>by have:=h.held.lt;omega);have c0:=h0.ch;have t0:=aa (o:=0) hbt rfl;have t1:=aa (o:=1) hbt rfl;have c1':=h1.ch;have u0:=aa (o:=0) hb1 rfl;have u1:=aa (o:=1) hb1 rfl;go_region_held3 (fun w'=>w'.cell? ⟨kb,1024,none⟩=some (.map (some V.hb))/\w'.cell? ⟨w.heap.size,0,none⟩=some (.int .i64 t.node)/\w'.cell? ⟨w.heap.size,1,none⟩=some (.int .i64 t.index)) (go_keep) (fail)
 clear c0 t0 t1 c1' hrun;have hF1:Fr w W1 (V.fp kb):=((hf0.step hd (fun _=>False.elim)).mono (fun _=>False.elim)).step hf1 (fun k hk=>.inl (.inr (.inl hk)))
 have hsz1:W1.heap.size=w.heap.size+2:=by simp at hs1;omega
 have c1:=h1.ct;have p0:=aa (o:=0) hb2 rfl;have p1:=aa (o:=1) hb2 rfl;have hd1:Fr W1 W1.drew (fun _=>False):=(Fr.refl _ _).drew;have h2:=h1.frame hd1 (fun _ _=>id);have no:∀k,w.heap.size<=k->¬br V.tb V.M k:=fun k hk hk2=>by have:=h.tree.fpLt hk2;omega
 go_wp2_with fail
 go_region_held3 (fun w'=>w'.cell? ⟨kb,1025,none⟩=some (.map (some V.tb))/\w'.cell? ⟨w.heap.size,0,none⟩=some (.int .i64 t.node)/\w'.cell? ⟨w.heap.size,1,none⟩=some (.int .i64 t.index)/\w'.cell? ⟨w.heap.size+1,0,none⟩=some (.int .i64 p.node)/\w'.cell? ⟨w.heap.size+1,1,none⟩=some (.int .i64 p.index)) (go_keep)
  ((go_at_call 31;refine (b05 V.M V.tb t p _ h2.tree hl).mono ?_;rintro e W3 ⟨rfl,M',hM,hst,hfM,hrM⟩;have h3:=h2.putM hM hfM hrM;have c3:=h3.ct;obtain ⟨g1,g2⟩:=ah3 hfM hb1 (no _ (Nat.le_refl _));obtain ⟨g3,g4⟩:=ah3 hfM hb2 (no _ (Nat.le_succ _))))
 have hF:Fr w W3 (V.fp kb):=(hF1.step hd1 (fun _=>False.elim)).step hfM (fun k hk=>.inl (.inr (.inr (.inr (.inr (.inr (.inl hk)))))))
 have hK:ah.ker {V with H:=putM t c V.H,M:=M'}=V.ker.lay t c p:=by
  simp only [ah.ker,a_.lay,ju,hst]
 have hfp:∀k,ah.fp kb {V with H:=putM t c V.H,M:=M'} k->V.fp kb k\/w.heap.size<=k:=by
  rintro k (e | e | e | e | e | e | e)
  ·exact .inl (.inl e)
  ·exact .inl (.inr (.inl e))
  ·exact .inl (.inr (.inr (.inl e)))
  ·exact .inl (.inr (.inr (.inr (.inl e))))
  ·exact .inl (.inr (.inr (.inr (.inr (.inl e)))))
  ·rcases hrM k e with e2 | e2
   ·exact .inl (.inr (.inr (.inr (.inr (.inr (.inl e2))))))
   ·exact .inr (by simp at e2;omega)
  ·exact .inl (.inr (.inr (.inr (.inr (.inr (.inr e))))))
 clear c1 c3 g1 g2 g3 g4 p0 p1 u0 u1 hM hst hfM hrM;go_wp2;go_end0;exact ⟨rfl,_,h3,hK,rfl,hF,hfp⟩
theorem bh9 (m:Nat)(h:m<=20):wrap64 (2 ^ m)=pw m:=by
 have h1:=lq m;have h2:=ag9 m h;have h3:(2:Int) ^ m=pw m:=by unfold pw;rw [Int.natCast_pow];rfl
 rw [h3];unfold wrap64;omega
theorem b61 (w:World):(Instr.makeChan 123 (.int .i64 64)).run Tryz.prog w=.ok (.chan (some w.heap.size)) (w.alloc (.chan 64 #[] false 0 0 false)):=by kernel_rfl
theorem wm (b n:Int)(w:World)(h0:0<=n)(h1:n<=20):
 Calls Tryz.prog 56 #[.agg #[.int .i64 b,.int .i64 n]] w fun e w'=>e=.returned (.int .i64 (pw n.toNat))/\Fr w w' (fun _=>False):=by
 obtain ⟨m,rfl⟩:=Int.eq_ofNat_of_zero_le h0;have hw:=bh9 m (by omega);go_enter Tryz.func56,Tryz.ntmps56
 go_wp2;go_ret;exact ⟨by rw [hw,Int.toNat_natCast];rfl,(Fr.refl _ _).alloc _⟩
theorem bl4 (b n r:Int)(w:World)(h0:0<=n)(h1:n<=20):
 Calls Tryz.prog 32 #[.agg #[.int .i64 b,.int .i64 n,.int .i64 r]] w fun e w'=>e=.returned (.int .i64 (pw n.toNat / 4))/\Fr w w' (fun _=>False):=by
 have hp:=lq n.toNat;have hq:=ag9 n.toNat (by omega);go_enter Tryz.func32,Tryz.ntmps32
 go_wp2_with fail
 refine (wm b n _ h0 h1).mono ?_;rintro e w1 ⟨rfl,hf⟩;have hf1:=((Fr.refl w (fun _=>False)).alloc (.cells #[.int .i64 b,.int .i64 n,.int .i64 r] 119)).step hf (fun _=>False.elim);go_wp2;go_ret;exact ⟨rfl,hf1⟩
theorem av1 (w:World)(a b c:Obj):(((w.alloc a).alloc b).alloc c).drew.heap[w.heap.size+1]?=some b/\(((w.alloc a).alloc b).alloc c).drew.heap[w.heap.size+1+1]?=some c:=by
 have s1:(w.alloc a).heap.size=w.heap.size+1:=by simp
 have s2:((w.alloc a).alloc b).heap.size=w.heap.size+1+1:=by simp
 refine ⟨?_,?_⟩
 ·show (((w.alloc a).alloc b).alloc c).heap[w.heap.size+1]?=some b;rw [heap_alloc_old _ _ (by omega),<- s1];exact heap_alloc_new _ _
 ·show (((w.alloc a).alloc b).alloc c).heap[w.heap.size+1+1]?=some c;rw [<- s2];exact heap_alloc_new _ _
theorem bq7 (w:World):
 Calls Tryz.prog 33 #[] w fun e w'=>(∃q,e=.returned (o_ q)/\q.1≠q.2/\w.heap.size<=q.1/\w.heap.size<=q.2/\lr w' q.1 []/\lr w' q.2 [])/\Fr w w' (fun _=>False):=by
 have hmk:=b61;go_enter Tryz.func33,Tryz.ntmps33
 go_wp2;go_region
 all_goals (try go_wp2)
 ·refine bodyPost_ret (v:=o_ (w.heap.size+1,w.heap.size+1+1)) (by simp [results,Tryz.results33,go_sem,o_]) rfl ⟨⟨_,rfl,by simp,by simp,by simp;omega,⟨0,0,?_⟩,⟨0,0,?_⟩⟩,((((Fr.refl _ _).alloc _).alloc _).alloc _).drew⟩
  ·exact (av1 _ _ _ _).1
  ·exact (av1 _ _ _ _).2
 ·refine bodyPost_ret (v:=o_ (w.heap.size+1+1,w.heap.size+1)) (by simp [results,Tryz.results33,go_sem,o_]) rfl ⟨⟨_,rfl,by simp,by simp;omega,by simp,⟨0,0,?_⟩,⟨0,0,?_⟩⟩,((((Fr.refl _ _).alloc _).alloc _).alloc _).drew⟩
  ·exact (av1 _ _ _ _).2
  ·exact (av1 _ _ _ _).1
theorem aj5 (ty b n:Int)(w:World):
 Calls Tryz.prog 20 #[.int .i64 ty,.agg #[.int .i64 b,.int .i64 n]] w fun e w'=>e=.returned (ki ty b n).val/\Fr w w' (fun _=>False):=by
 by_cases h1:ty=1
 ·subst h1;go_enter Tryz.func20,Tryz.ntmps20
  go_wp2;go_ret;exact ⟨rfl,(Fr.refl _ _).alloc _⟩
 by_cases h2:ty=2
 ·subst h2;go_enter Tryz.func20,Tryz.ntmps20
  go_wp2;go_ret;exact ⟨rfl,(Fr.refl _ _).alloc _⟩
 by_cases h3:ty=3
 ·subst h3;go_enter Tryz.func20,Tryz.ntmps20
  go_wp2;go_ret;exact ⟨rfl,(Fr.refl _ _).alloc _⟩
 by_cases h4:ty=4
 ·subst h4;go_enter Tryz.func20,Tryz.ntmps20
  go_wp2;go_ret;exact ⟨rfl,(Fr.refl _ _).alloc _⟩
 have hm:ki ty b n=.frame b n 7:=by simp [ki,h1,h2,h3,h4]
 go_enter Tryz.func20,Tryz.ntmps20
 go_wp2;go_ret;exact ⟨by rw [hm];rfl,(Fr.refl _ _).alloc _⟩
theorem ir (v:Value)(w:World):(Instr.typeAssert (.iface 76 v) 79 76 true).run Tryz.prog w=.ok (.tuple #[v,.bool true]) w:=by kernel_rfl
theorem jw (v:Value)(w:World):(Instr.typeAssert (.iface 76 v) 79 119 true).run Tryz.prog w=.ok (.tuple #[.agg #[.int .i64 0,.int .i64 0,.int .i64 0],.bool false]) w:=by kernel_rfl
theorem h_ (v:Value)(w:World):(Instr.typeAssert (.iface 76 v) 79 122 true).run Tryz.prog w=.ok (.tuple #[.agg #[.int .i64 0,.int .i64 0,.int .i64 0,.int .i64 0],.bool false]) w:=by kernel_rfl
theorem mm (v:Value)(w:World):(Instr.typeAssert (.iface 76 v) 79 127 true).run Tryz.prog w=.ok (.tuple #[.agg #[.int .i64 0,.int .i64 0,.int .i64 0],.bool false]) w:=by kernel_rfl
theorem ui (v:Value)(w:World):(Instr.typeAssert (.iface 76 v) 79 128 true).run Tryz.prog w=.ok (.tuple #[.agg #[.int .i64 0,.int .i64 0,.int .i64 0],.bool false]) w:=by kernel_rfl
theorem v_ (v:Value)(w:World):(Instr.typeAssert (.iface 119 v) 79 76 true).run Tryz.prog w=.ok (.tuple #[.agg #[.int .i64 0,.int .i64 0,.int .i64 0],.bool false]) w:=by kernel_rfl
theorem ly (v:Value)(w:World):(Instr.typeAssert (.iface 119 v) 79 119 true).run Tryz.prog w=.ok (.tuple #[v,.bool true]) w:=by kernel_rfl
theorem pd (v:Value)(w:World):(Instr.typeAssert (.iface 119 v) 79 122 true).run Tryz.prog w=.ok (.tuple #[.agg #[.int .i64 0,.int .i64 0,.int .i64 0,.int .i64 0],.bool false]) w:=by kernel_rfl
theorem ab5 (v:Value)(w:World):(Instr.typeAssert (.iface 119 v) 79 127 true).run Tryz.prog w=.ok (.tuple #[.agg #[.int .i64 0,.int .i64 0,.int .i64 0],.bool false]) w:=by kernel_rfl
theorem ap_ (v:Value)(w:World):(Instr.typeAssert (.iface 119 v) 79 128 true).run Tryz.prog w=.ok (.tuple #[.agg #[.int .i64 0,.int .i64 0,.int .i64 0],.bool false]) w:=by kernel_rfl
theorem qe (v:Value)(w:World):(Instr.typeAssert (.iface 122 v) 79 76 true).run Tryz.prog w=.ok (.tuple #[.agg #[.int .i64 0,.int .i64 0,.int .i64 0],.bool false]) w:=by kernel_rfl
theorem jm (v:Value)(w:World):(Instr.typeAssert (.iface 122 v) 79 119 true).run Tryz.prog w=.ok (.tuple #[.agg #[.int .i64 0,.int .i64 0,.int .i64 0],.bool false]) w:=by kernel_rfl
theorem bp (v:Value)(w:World):(Instr.typeAssert (.iface 122 v) 79 122 true).run Tryz.prog w=.ok (.tuple #[v,.bool true]) w:=by kernel_rfl
theorem ae2 (v:Value)(w:World):(Instr.typeAssert (.iface 122 v) 79 127 true).run Tryz.prog w=.ok (.tuple #[.agg #[.int .i64 0,.int .i64 0,.int .i64 0],.bool false]) w:=by kernel_rfl
theorem aa4 (v:Value)(w:World):(Instr.typeAssert (.iface 122 v) 79 128 true).run Tryz.prog w=.ok (.tuple #[.agg #[.int .i64 0,.int .i64 0,.int .i64 0],.bool false]) w:=by kernel_rfl
theorem wa (v:Value)(w:World):(Instr.typeAssert (.iface 127 v) 79 76 true).run Tryz.prog w=.ok (.tuple #[.agg #[.int .i64 0,.int .i64 0,.int .i64 0],.bool false]) w:=by kernel_rfl
theorem o7 (v:Value)(w:World):(Instr.typeAssert (.iface 127 v) 79 119 true).run Tryz.prog w=.ok (.tuple #[.agg #[.int .i64 0,.int .i64 0,.int .i64 0],.bool false]) w:=by kernel_rfl
theorem ip (v:Value)(w:World):(Instr.typeAssert (.iface 127 v) 79 122 true).run Tryz.prog w=.ok (.tuple #[.agg #[.int .i64 0,.int .i64 0,.int .i64 0,.int .i64 0],.bool false]) w:=by kernel_rfl
theorem o6 (v:Value)(w:World):(Instr.typeAssert (.iface 127 v) 79 127 true).run Tryz.prog w=.ok (.tuple #[v,.bool true]) w:=by kernel_rfl
theorem ap7 (v:Value)(w:World):(Instr.typeAssert (.iface 127 v) 79 128 true).run Tryz.prog w=.ok (.tuple #[.agg #[.int .i64 0,.int .i64 0,.int .i64 0],.bool false]) w:=by kernel_rfl
theorem uj (v:Value)(w:World):(Instr.typeAssert (.iface 128 v) 79 76 true).run Tryz.prog w=.ok (.tuple #[.agg #[.int .i64 0,.int .i64 0,.int .i64 0],.bool false]) w:=by kernel_rfl
theorem j_ (v:Value)(w:World):(Instr.typeAssert (.iface 128 v) 79 119 true).run Tryz.prog w=.ok (.tuple #[.agg #[.int .i64 0,.int .i64 0,.int .i64 0],.bool false]) w:=by kernel_rfl
theorem gh (v:Value)(w:World):(Instr.typeAssert (.iface 128 v) 79 122 true).run Tryz.prog w=.ok (.tuple #[.agg #[.int .i64 0,.int .i64 0,.int .i64 0,.int .i64 0],.bool false]) w:=by kernel_rfl
theorem mh (v:Value)(w:World):(Instr.typeAssert (.iface 128 v) 79 127 true).run Tryz.prog w=.ok (.tuple #[.agg #[.int .i64 0,.int .i64 0,.int .i64 0],.bool false]) w:=by kernel_rfl
theorem kp (v:Value)(w:World):(Instr.typeAssert (.iface 128 v) 79 128 true).run Tryz.prog w=.ok (.tuple #[v,.bool true]) w:=by kernel_rfl
theorem al8 (w:World):(Instr.typeAssert .nilIface 79 76 true).run Tryz.prog w=.ok (.tuple #[.agg #[.int .i64 0,.int .i64 0,.int .i64 0],.bool false]) w:=by kernel_rfl
theorem af8 (w:World):(Instr.typeAssert .nilIface 79 119 true).run Tryz.prog w=.ok (.tuple #[.agg #[.int .i64 0,.int .i64 0,.int .i64 0],.bool false]) w:=by kernel_rfl
theorem ah6 (w:World):(Instr.typeAssert .nilIface 79 122 true).run Tryz.prog w=.ok (.tuple #[.agg #[.int .i64 0,.int .i64 0,.int .i64 0,.int .i64 0],.bool false]) w:=by kernel_rfl
theorem az4 (w:World):(Instr.typeAssert .nilIface 79 127 true).run Tryz.prog w=.ok (.tuple #[.agg #[.int .i64 0,.int .i64 0,.int .i64 0],.bool false]) w:=by kernel_rfl
theorem au9 (w:World):(Instr.typeAssert .nilIface 79 128 true).run Tryz.prog w=.ok (.tuple #[.agg #[.int .i64 0,.int .i64 0,.int .i64 0],.bool false]) w:=by kernel_rfl
attribute [local go_sem] jw h_ mm ly jm bp o7 ip o6 j_ gh mh
theorem kg.of {w w1 w':World}{kb:Nat}{V V1:ah}{K:a_}(h:kg w1 kb V1 K w')(hf:Fr w w1 (V.fp kb))(hd:V1.dv=V.dv)(hfp:∀k,V1.fp kb k->V.fp kb k\/w.heap.size<=k):kg w kb V K w':=by
 obtain ⟨V',h1,h2,h3,h4,h5⟩:=h;refine ⟨V',h1,h2,h3.trans hd,hf.step h4 hfp,fun k hk=>?_⟩
 rcases h5 k hk with e | e
 ·exact hfp k e
 ·exact .inr (Nat.le_trans hf.size e)
theorem un {w W0:World}{a b c:Obj}(hW:((w.alloc a).alloc b).alloc c=W0):Fr w W0 (fun _=>False)/\W0.heap.size=w.heap.size+3/\W0.heap[w.heap.size]?=some a/\W0.heap[w.heap.size+1]?=some b/\W0.heap[w.heap.size+1+1]?=some c:=by
 subst hW;refine ⟨(((Fr.refl _ _).alloc _).alloc _).alloc _,by simp,?_,?_,?_⟩
 ·rw [heap_alloc_old _ _ (by simp;omega),heap_alloc_old _ _ (by simp)];exact heap_alloc_new _ _
 ·rw [heap_alloc_old _ _ (by simp)];have:=heap_alloc_new (w.alloc a) b;simpa using this
 ·have:=heap_alloc_new ((w.alloc a).alloc b) c;simpa using this
theorem xr {w W0:World}{a b:Obj}(hW:(w.alloc a).alloc b=W0):Fr w W0 (fun _=>False)/\W0.heap.size=w.heap.size+2/\W0.heap[w.heap.size]?=some a/\W0.heap[w.heap.size+1]?=some b:=by
 subst hW;refine ⟨((Fr.refl _ _).alloc _).alloc _,by simp,?_,?_⟩
 ·rw [heap_alloc_old _ _ (by simp)];exact heap_alloc_new _ _
 ·have:=heap_alloc_new (w.alloc a) b;simpa using this
theorem bx2 {W0 W2:World}{kb:Nat}{V:ah}(h0:aq W0 kb V)(hf2:Fr W0.drew W2 (fun _=>False)){x1 x2 x3:Nat}{c2 c3:Array Value}{t1 t2 t3:TypeId}{v0 v1 v2:Value}
 (hb1:W0.heap[x1]?=some (.cells #[v0,v1,v2] t1 (0,0))) (hb2:W0.heap[x2]?=some (.cells c2 t2 (0,0))) (hb3:W0.heap[x3]?=some (.cells c3 t3 (0,0))) (b n:Int) :
 ∃W1,(Instr.mapUpdate 62 (.map (some V.nb)) (.int .i64 b) (.int .i64 n)).run Tryz.prog W2=.ok () W1/\Fr W0 W1 (fun k=>k=V.nb)/\aq W1 kb {V with N:=putM b n V.N}/\
  W2.cell? ⟨kb,1026,none⟩=some (.map (some V.nb))/\W2.cell? ⟨x1,0,none⟩=some v0/\W2.cell? ⟨x1,1,none⟩=some v1/\W2.cell? ⟨x1,2,none⟩=some v2/\
  W1.cell? ⟨kb,1026,none⟩=some (.map (some V.nb))/\W1.cell? ⟨x1,0,none⟩=some v0/\W1.cell? ⟨x1,1,none⟩=some v1/\W1.cell? ⟨x1,2,none⟩=some v2/\
  W1.heap[x2]?=some (.cells c2 t2 (0,0))/\W1.heap[x3]?=some (.cells c3 t3 (0,0)):=by
 have hf:Fr W0 W2 (fun _=>False):=((Fr.refl W0 (fun _=>False)).drew).step hf2 (fun _=>False.elim);have h2:=h0.frame hf (fun _ _=>id);obtain ⟨W1,hrun,hm1,hf1,hs1⟩:=h2.nodes.put_run ku Tryz.underlying62 b n;have no:∀{x:Nat} {c:Array Value} {t:TypeId},W0.heap[x]?=some (.cells c t (0,0))->x≠V.nb:=fun hx e=>di h0.nodes (e▸hx)
 have h3:=h2.putN hm1 hf1;have hx1:=hf1.same (hf.same hb1 id) (no hb1);exact ⟨W1,hrun,(hf.mono (fun _=>False.elim)).step hf1 (fun k hk=>.inl hk),h3,h2.cn,aa (hf.same hb1 id) rfl,aa (hf.same hb1 id) rfl,aa (hf.same hb1 id) rfl,h3.cn,aa hx1 rfl,aa hx1 rfl,aa hx1 rfl,
  hf1.same (hf.same hb2 id) (no hb2),hf1.same (hf.same hb3 id) (no hb3)⟩
theorem ag4 (V:ah)(kb:Nat)(t p:Slot)(c:KCap)(root:Int)(w:World)(h:aq w kb V)(hl:∀x,am p V.M=some x->x.kids.length<1000000)
 (hc:(∃b n m,c=.untyped b n m)\/∃b n r,c=.frame b n r) :
 Calls Tryz.prog 19 #[.pointer (some ⟨kb,0,none⟩),.agg #[.int .i64 t.node,.int .i64 t.index],c.val,.agg #[.int .i64 p.node,.int .i64 p.index],.int .i64 root] w fun e w'=>e=.returned (.tuple #[])/\kg w kb V (V.ker.found t c p root) w':=by
 rcases hc with ⟨b,n,m,rfl⟩ | ⟨b,n,r,rfl⟩
 ·go_enter Tryz.func19,Tryz.ntmps19
  simp only [KCap.val];go_wp2_with fail
  generalize hW0:(w.alloc _).alloc _=W0;obtain ⟨hf0,_,_,_⟩:=xr hW0;refine (qy V kb t p (.untyped b n m) W0 (h.frame hf0 (fun _ _=>id)) hl).mono ?_;rintro e w1 ⟨rfl,hK⟩;have hK2:=hK.of (V:=V) (hf0.mono (fun _=>False.elim)) rfl (fun k hk=>.inl hk);go_wp2;go_end0;exact ⟨rfl,hK2⟩
 ·go_enter Tryz.func19,Tryz.ntmps19
  simp only [KCap.val];go_wp2_with fail
  generalize hW0:(w.alloc _).alloc _=W0;obtain ⟨hf0,_,_,_⟩:=xr hW0;refine (qy V kb t p (.frame b n r) W0 (h.frame hf0 (fun _ _=>id)) hl).mono ?_;rintro e w1 ⟨rfl,hK⟩;have hK2:=hK.of (V:=V) (hf0.mono (fun _=>False.elim)) rfl (fun k hk=>.inl hk);go_wp2;go_end0;exact ⟨rfl,hK2⟩
theorem bc2 (V:ah)(kb:Nat)(t p:Slot)(b n r:Int)(root:Int)(w:World)(h:aq w kb V)(hl:∀x,am p V.M=some x->x.kids.length<1000000):
 Calls Tryz.prog 19 #[.pointer (some ⟨kb,0,none⟩),.agg #[.int .i64 t.node,.int .i64 t.index],(KCap.task b n r).val,.agg #[.int .i64 p.node,.int .i64 p.index],.int .i64 root] w fun e w'=>e=.returned (.tuple #[])/\kg w kb V (V.ker.found t (.task b n r) p root) w':=by
 go_enter Tryz.func19,Tryz.ntmps19
 simp only [KCap.val];go_wp2_with fail
 generalize hW0:World.alloc _ _=W0;obtain ⟨hf0,hs0,hbt,hbp,hbc⟩:=un hW0;clear hW0;have h0:aq W0 kb V:=h.frame hf0 (fun _ _=>id);have hd:Fr W0 W0.drew (fun _=>False):=(Fr.refl _ _).drew;have hlt:=h.thr.lt;obtain ⟨W1,hrun,hm1,hf1,hs1⟩:=(h0.frame hd (fun _ _=>id)).thr.put_run ku Tryz.underlying63 b ⟨1,root,0,0,0⟩;simp only [ke,oz.val] at hrun;have h1:aq W1 kb {V with T:=putM b ⟨1,root,0,0,0⟩ V.T}:=(h0.frame hd (fun _ _=>id)).putT hm1 hf1;have hb1:=hf1.same (hd.same hbt id) (fun e=>by omega);have hb2:=hf1.same (hd.same hbp id) (fun e=>by omega);have hb3:=hf1.same (hd.same hbc id) (fun e=>by omega);have c0:=h0.cr;have q0:=aa (o:=0) hbc rfl;have c1:=h1.cr;have q1:=aa (o:=0) hb3 rfl;go_region_held3 (fun w'=>w'.cell? ⟨kb,1028,none⟩=some (.map (some V.rb))/\w'.cell? ⟨w.heap.size+1+1,0,none⟩=some (.int .i64 b)) (go_keep) (fail)
 clear c0 q0 c1 q1 hrun;have hF1:Fr w W1 (V.fp kb):=((hf0.step hd (fun _=>False.elim)).mono (fun _=>False.elim)).step hf1 (fun k hk=>.inl (.inr (.inr (.inr (.inl hk)))))
 have t0:=aa (o:=0) hb1 rfl;have t1:=aa (o:=1) hb1 rfl;have p0:=aa (o:=0) hb2 rfl;have p1:=aa (o:=1) hb2 rfl;go_wp2_with fail
 refine (qy _ kb t p (.task b n r) W1 h1 hl).mono ?_;rintro e w1 ⟨rfl,hK⟩;have hK2:=hK.of (V:=V) hF1 rfl (fun k hk=>.inl hk);have hKe:a_.lay (ah.ker {V with T:=putM b ⟨1,root,0,0,0⟩ V.T}) t (.task b n r) p=V.ker.found t (.task b n r) p root:=by
  simp only [ah.ker,a_.found,ju]
 rw [hKe] at hK2;clear t0 t1 p0 p1 hK hKe;go_wp2;go_end0;exact ⟨rfl,hK2⟩
theorem ba2 (V:ah)(kb:Nat)(t p:Slot)(b n r:Int)(root:Int)(w:World)(h:aq w kb V)(hl:∀x,am p V.M=some x->x.kids.length<1000000)(hn0:0<=n)(hn1:n<=20):
 Calls Tryz.prog 19 #[.pointer (some ⟨kb,0,none⟩),.agg #[.int .i64 t.node,.int .i64 t.index],(KCap.node b n r).val,.agg #[.int .i64 p.node,.int .i64 p.index],.int .i64 root] w fun e w'=>e=.returned (.tuple #[])/\kg w kb V (V.ker.found t (.node b n r) p root) w':=by
 go_enter Tryz.func19,Tryz.ntmps19
 simp only [KCap.val];go_wp2_with fail
 generalize hW0:World.alloc _ _=W0;obtain ⟨hf0,hs0,hbt,hbp,hbc⟩:=un hW0;clear hW0;have h0:aq W0 kb V:=h.frame hf0 (fun _ _=>id);have hlt:=h.nodes.lt;have c0:=h0.cn;have q0:=aa (o:=0) hbc rfl;have q1:=aa (o:=1) hbc rfl;have q2:=aa (o:=2) hbc rfl;go_region_held3 (fun w'=>w'.cell? ⟨kb,1026,none⟩=some (.map (some V.nb))/\w'.cell? ⟨w.heap.size+1+1,0,none⟩=some (.int .i64 b)/\w'.cell? ⟨w.heap.size+1+1,1,none⟩=some (.int .i64 n)/\w'.cell? ⟨w.heap.size+1+1,2,none⟩=some (.int .i64 r)) (go_keep)
  ((go_at_call 32;refine (bl4 b n r _ hn0 hn1).mono ?_;rintro e W2 ⟨rfl,hf2⟩;obtain ⟨W1,hrun,hf3,h1,g1,g2,g3,g4,g5,g6,g7,g8,hbt1,hbp1⟩:=bx2 h0 hf2 hbc hbt hbp b (pw n.toNat / 4)))
 clear c0 q0 q1 q2 g1 g2 g3 g4 g5 g6 g7 g8 hrun;have hF1:Fr w W1 (V.fp kb):=(hf0.mono (fun _=>False.elim)).step hf3 (fun k hk=>.inl (.inr (.inr (.inl hk))))
 have t0:=aa (o:=0) hbt1 rfl;have t1:=aa (o:=1) hbt1 rfl;have p0:=aa (o:=0) hbp1 rfl;have p1:=aa (o:=1) hbp1 rfl;go_wp2_with fail
 refine (qy _ kb t p (.node b n r) W1 h1 hl).mono ?_;rintro e w1 ⟨rfl,hK⟩;have hK2:=hK.of (V:=V) hF1 rfl (fun k hk=>.inl hk);have hKe:a_.lay (ah.ker {V with N:=putM b (pw n.toNat / 4) V.N}) t (.node b n r) p=V.ker.found t (.node b n r) p root:=by
  simp only [ah.ker,a_.found,ju]
 rw [hKe] at hK2;clear t0 t1 p0 p1 hK hKe;go_wp2;go_end0;exact ⟨rfl,hK2⟩
def aa5 (C:Nat->List dx)(q:Nat×Nat)(k:Nat):List dx:=if k=q.1\/k=q.2 then [] else C k
theorem b20 {W0 W2:World}{kb:Nat}{V:ah}(h0:aq W0 kb V)(hf2:Fr W0.drew W2 (fun _=>False)){x1 x2 x3:Nat}{c2 c3:Array Value}{t1 t2 t3:TypeId}{v0 v1 v2 v3:Value}
 (hb1:W0.heap[x1]?=some (.cells #[v0,v1,v2,v3] t1 (0,0))) (hb2:W0.heap[x2]?=some (.cells c2 t2 (0,0))) (hb3:W0.heap[x3]?=some (.cells c3 t3 (0,0))) (b:Int) (q:Nat×Nat) (hq:q.1≠q.2/\W0.heap.size<=q.1/\W0.heap.size<=q.2/\lr W2 q.1 []/\lr W2 q.2 []) :
 ∃W1,(Instr.mapUpdate 64 (.map (some V.qb)) (.int .i64 b) (o_ q)).run Tryz.prog W2=.ok () W1/\Fr W0 W1 (fun k=>k=V.qb)/\aq W1 kb {V with Q:=putM b q V.Q,C:=aa5 V.C q}/\
  W2.cell? ⟨kb,1029,none⟩=some (.map (some V.qb))/\W2.cell? ⟨x1,0,none⟩=some v0/\
  W1.cell? ⟨kb,1029,none⟩=some (.map (some V.qb))/\W1.cell? ⟨x1,0,none⟩=some v0/\
  W1.heap[x2]?=some (.cells c2 t2 (0,0))/\W1.heap[x3]?=some (.cells c3 t3 (0,0)):=by
 have hf:Fr W0 W2 (fun _=>False):=((Fr.refl W0 (fun _=>False)).drew).step hf2 (fun _=>False.elim);have h2:=h0.frame hf (fun _ _=>id);obtain ⟨W1,hrun,hm1,hf1,hs1⟩:=h2.que.put_run ku Tryz.underlying64 b q;have no:∀{x:Nat} {c:Array Value} {t:TypeId},W0.heap[x]?=some (.cells c t (0,0))->x≠V.qb:=fun hx e=>di h0.que (e▸hx)
 have h3:=h2.putQ hm1 hf1 (C':=aa5 V.C q) (by
  have hr:=h2.rest.frame hf1 (fun k hk=>h2.rest.noMap h2.que hk);have hqb:=h2.que.lt;have hlt:=h0.que.lt;have hkey:∀b' q',am b' (putM b q V.Q)=some q'->(b'=b/\q'=q)\/(b'≠b/\am b' V.Q=some q'):=by
   intro b' q' h';rw [g_] at h';split at h'
   ·rename_i e;cases h';exact .inl ⟨e.symm,rfl⟩
   ·rename_i e;exact .inr ⟨fun e2=>e e2.symm,h'⟩
  have hold:∀b' q',am b' V.Q=some q'->q'.1<W0.heap.size/\q'.2<W0.heap.size:=fun b' q' h'=>
   ⟨h0.rest.lt ⟨b',q',h',.inl rfl⟩,h0.rest.lt ⟨b',q',h',.inr rfl⟩⟩
  have hCo:∀k,k<W0.heap.size->aa5 V.C q k=V.C k:=fun k hk=>by unfold aa5;rw [if_neg (by omega)]
  refine ⟨?_,?_,?_⟩
  ·intro b' q' h';rcases hkey b' q' h' with ⟨_,rfl⟩ | ⟨_,h'⟩
   ·have e1:aa5 V.C q' q'.1=[]:=by unfold aa5;rw [if_pos (.inl rfl)]
    have e2:aa5 V.C q' q'.2=[]:=by unfold aa5;rw [if_pos (.inr rfl)]
    rw [e1,e2];exact ⟨hq.2.2.2.1.frame hf1 (by omega),hq.2.2.2.2.frame hf1 (by omega)⟩
   ·obtain ⟨l1,l2⟩:=hold b' q' h';rw [hCo _ l1,hCo _ l2];exact hr.chan b' q' h'
  ·intro b1 q1 b2 q2 g1 g2 hne;rcases hkey b1 q1 g1 with ⟨e1,f1⟩ | ⟨_,k1⟩<;>rcases hkey b2 q2 g2 with ⟨e2,f2⟩ | ⟨_,k2⟩
   ·exact absurd (e1.trans e2.symm) hne
   ·obtain ⟨l1,l2⟩:=hold b2 q2 k2;rw [f1];exact ⟨by omega,by omega,by omega,by omega⟩
   ·obtain ⟨l1,l2⟩:=hold b1 q1 k1;rw [f2];exact ⟨by omega,by omega,by omega,by omega⟩
   ·exact h0.rest.apart b1 q1 b2 q2 k1 k2 hne
  ·intro b' q' h';rcases hkey b' q' h' with ⟨_,rfl⟩ | ⟨_,h'⟩
   ·exact hq.1
   ·exact h0.rest.two b' q' h')
 have hx1:=hf1.same (hf.same hb1 id) (no hb1);exact ⟨W1,hrun,(hf.mono (fun _=>False.elim)).step hf1 (fun k hk=>.inl hk),h3,h2.cq,aa (hf.same hb1 id) rfl,h3.cq,aa hx1 rfl,
  hf1.same (hf.same hb2 id) (no hb2),hf1.same (hf.same hb3 id) (no hb3)⟩
theorem bj_ (V:ah)(kb:Nat)(t p:Slot)(b n r g:Int)(root:Int)(w:World)(h:aq w kb V)(hl:∀x,am p V.M=some x->x.kids.length<1000000):
 Calls Tryz.prog 19 #[.pointer (some ⟨kb,0,none⟩),.agg #[.int .i64 t.node,.int .i64 t.index],(KCap.endpoint b n r g).val,.agg #[.int .i64 p.node,.int .i64 p.index],.int .i64 root] w fun e w'=>e=.returned (.tuple #[])/\kg w kb V (V.ker.found t (.endpoint b n r g) p root) w':=by
 go_enter Tryz.func19,Tryz.ntmps19
 simp only [KCap.val];go_wp2_with fail
 generalize hW0:World.alloc _ _=W0;obtain ⟨hf0,hs0,hbt,hbp,hbc⟩:=un hW0;clear hW0;have h0:aq W0 kb V:=h.frame hf0 (fun _ _=>id);have hlt:=h.nodes.lt;have c0:=h0.cq;have q0:=aa (o:=0) hbc rfl;go_region_held3 (fun w'=>w'.cell? ⟨kb,1029,none⟩=some (.map (some V.qb))/\w'.cell? ⟨w.heap.size+1+1,0,none⟩=some (.int .i64 b)) (go_keep)
  ((go_at_call 33;refine (bq7 _).mono ?_;rintro e W2 ⟨⟨q,rfl,hq⟩,hf2⟩;obtain ⟨W1,hrun,hf3,h1,g1,g2,g3,g4,hbt1,hbp1⟩:=b20 h0 hf2 hbc hbt hbp b q hq))
 clear c0 q0 g1 g2 g3 g4 hrun;have hF1:Fr w W1 (V.fp kb):=(hf0.mono (fun _=>False.elim)).step hf3 (fun k hk=>.inl (.inr (.inr (.inr (.inr (.inl hk))))))
 have t0:=aa (o:=0) hbt1 rfl;have t1:=aa (o:=1) hbt1 rfl;have p0:=aa (o:=0) hbp1 rfl;have p1:=aa (o:=1) hbp1 rfl;go_wp2_with fail
 refine (qy _ kb t p (.endpoint b n r g) W1 h1 hl).mono ?_;rintro e w1 ⟨rfl,hK⟩;have hfpn:∀k,ah.fp kb {V with Q:=putM b q V.Q,C:=aa5 V.C q} k->V.fp kb k\/w.heap.size<=k:=by
  rintro k (e | e | e | e | e | e | ⟨b',q',hl',e⟩)
  ·exact .inl (.inl e)
  ·exact .inl (.inr (.inl e))
  ·exact .inl (.inr (.inr (.inl e)))
  ·exact .inl (.inr (.inr (.inr (.inl e))))
  ·exact .inl (.inr (.inr (.inr (.inr (.inl e)))))
  ·exact .inl (.inr (.inr (.inr (.inr (.inr (.inl e))))))
  ·rw [g_] at hl';split at hl'
   ·cases hl'
    right;have hq2:=hq.2.1;have hq3:=hq.2.2.1;have hdr:W0.drew.heap.size=W0.heap.size:=rfl;have:=hf0.size;omega
   ·exact .inl (.inr (.inr (.inr (.inr (.inr (.inr ⟨b',q',hl',e⟩))))))
 have hK2:=hK.of (V:=V) hF1 rfl hfpn;have hKe:a_.lay (ah.ker {V with Q:=putM b q V.Q,C:=aa5 V.C q}) t (.endpoint b n r g) p=V.ker.found t (.endpoint b n r g) p root:=by
  have hqs:(fun b'=>(am b' (putM b q V.Q)).map fun q'=>(aa5 V.C q q'.1,aa5 V.C q q'.2))=upd (fun b'=>(am b' V.Q).map fun q'=>(V.C q'.1,V.C q'.2)) b (some ([],[])):=by
   funext b';rw [g_];by_cases e:b=b'
   ·subst e;rw [if_pos rfl,ai];simp [aa5]
   ·rw [if_neg e,ae _ _ (Ne.symm e)];cases hl':am b' V.Q with
    | none=>rfl
    | some q'=>
     have l1:=h0.rest.lt (k:=q'.1) ⟨b',q',hl',.inl rfl⟩;have l2:=h0.rest.lt (k:=q'.2) ⟨b',q',hl',.inr rfl⟩;have hq2:=hq.2.1;have hq3:=hq.2.2.1;have hdr:W0.drew.heap.size=W0.heap.size:=rfl;simp only [Option.map_some,aa5];rw [if_neg (by omega),if_neg (by omega)]
  simp only [ah.ker,a_.found,hqs]
 rw [hKe] at hK2;clear t0 t1 p0 p1 hK hKe;go_wp2;go_end0;exact ⟨rfl,hK2⟩
theorem ae3 (V:ah)(kb:Nat)(t p:Slot)(c:KCap)(root:Int)(w:World)(h:aq w kb V)(hl:∀x,am p V.M=some x->x.kids.length<1000000)(hn:∀b n r,c=.node b n r->0<=n/\n<=20):
 Calls Tryz.prog 19 #[.pointer (some ⟨kb,0,none⟩),.agg #[.int .i64 t.node,.int .i64 t.index],c.val,.agg #[.int .i64 p.node,.int .i64 p.index],.int .i64 root] w fun e w'=>e=.returned (.tuple #[])/\kg w kb V (V.ker.found t c p root) w':=by
 cases c with
 | untyped b n m=>exact ag4 V kb t p _ root w h hl (.inl ⟨b,n,m,rfl⟩)
 | node b n r=>exact ba2 V kb t p b n r root w h hl (hn b n r rfl).1 (hn b n r rfl).2
 | endpoint b n r g=>exact bj_ V kb t p b n r g root w h hl
 | task b n r=>exact bc2 V kb t p b n r root w h hl
 | frame b n r=>exact ag4 V kb t p _ root w h hl (.inr ⟨b,n,r,rfl⟩)
def kb0 (h t n r q:Nat):Array Value:=Array.replicate 1024 (.int .u32 0)++#[.map (some h),.map (some t),.map (some n),.slice none 0 0,.map (some r),.map (some q)]
theorem av6 (h t n r q:Nat)(w:World):(Instr.build 69 #[(1,.map (some h)),(2,.map (some t)),(3,.map (some n)),(5,.map (some r)),(6,.map (some q))]).run Tryz.prog w=.ok (.agg (kb0 h t n r q)) w:=by kernel_rfl
theorem bc3 (h t n r q:Nat)(w:World):(Instr.box 69 (.agg (kb0 h t n r q))).run Tryz.prog w=.ok (.pointer (some ⟨w.heap.size,0,none⟩)) (w.alloc (.cells (kb0 h t n r q) 69)):=by kernel_rfl
section
variable {ops:Array Oper} {rest:List Oper} {o:Oper} {a:Act} {Q:Exit->Act->World->Prop} {w:World} {h t n r q:Nat}
theorem al4 (hg:o.guard=none)(x1 x2 x3 x4 x5:Operand)(hop:o.op=Op.build 69 #[(1,x1),(2,x2),(3,x3),(5,x4),(6,x5)])
 (e1:a.eval x1=.map (some h)) (e2:a.eval x2=.map (some t)) (e3:a.eval x3=.map (some n)) (e4:a.eval x4=.map (some r)) (e5:a.eval x5=.map (some q))
 (hK:wpList Tryz.prog ops Q rest (a.put o.dst (.agg (kb0 h t n r q))) w):wpList Tryz.prog ops Q (o :: rest) a w:=by
 refine wpList_plain hg fun K' hK'=>?_
 unfold Oper.wp;have:=av6 h t n r q w;simp [execOp,hop,e1,e2,e3,e4,e5,this,Result.andThen];exact hK' _ _ hK
theorem ax1 (hg:o.guard=none)(x:Operand)(hop:o.op=Op.box 69 x)(e:a.eval x=.agg (kb0 h t n r q))
 (hK:wpList Tryz.prog ops Q rest (a.put o.dst (.pointer (some ⟨w.heap.size,0,none⟩))) (w.alloc (.cells (kb0 h t n r q) 69))):wpList Tryz.prog ops Q (o :: rest) a w:=by
 refine wpList_plain hg fun K' hK'=>?_
 unfold Oper.wp;have:=bc3 h t n r q w;simp [execOp,hop,e,this,Result.andThen];exact hK' _ _ hK
end
def ot (n:Nat):ah:=⟨n,n+1,n+1+1,n+1+1+1,n+1+1+1+1,[],[],[],[],[],.slice none 0 0,fun _=>0,fun _=>[]⟩
theorem bm4 (n:Nat):a77 (ot n) (kb0 n (n+1) (n+1+1) (n+1+1+1) (n+1+1+1+1)):=by
 refine ⟨by simp [kb0],?_,by simp [kb0,ot],by simp [kb0,ot],by simp [kb0,ot],by simp [kb0,ot],by simp [kb0,ot],by simp [kb0,ot]⟩;intro i hi;unfold kb0;rw [Array.getElem?_append_left (by simp;omega)];simp [ot,hi]
theorem bm1 {w W0:World}{o:Obj} (hW:(((((((w.alloc (.map #[] 0)).alloc (.map #[] 0)).alloc (.map #[] 0)).alloc (.map #[] 0)).alloc (.map #[] 0)).alloc
 (.cells (kb0 w.heap.size (w.heap.size+1) (w.heap.size+1+1) (w.heap.size+1+1+1) (w.heap.size+1+1+1+1)) 69)).alloc o)=W0) :
 Fr w W0 (fun _=>False)/\W0.heap.size=w.heap.size+7/\W0.heap[w.heap.size+1+1+1+1+1+1]?=some o/\aq W0 (w.heap.size+1+1+1+1+1) (ot w.heap.size):=by
 subst hW;have key:∀(l:List Obj) (W:World),(l.foldl World.alloc W).heap.size=W.heap.size+l.length/\∀i,(hi:i<l.length)->(l.foldl World.alloc W).heap[W.heap.size+i]?=some l[i]:=by
  intro l;induction l with
  | nil=>intro W;exact ⟨rfl,fun i hi=>absurd hi (by simp)⟩
  | cons x l ih=>
   intro W;obtain ⟨h1,h2⟩:=ih (W.alloc x);have hs:(W.alloc x).heap.size=W.heap.size+1:=by simp
   rw [hs] at h1 h2;refine ⟨by simp only [List.foldl_cons,List.length_cons];omega,fun i hi=>?_⟩
   cases i with
   | zero=>
    have hfr:∀(l:List Obj) (W:World) (k:Nat),k<W.heap.size->(l.foldl World.alloc W).heap[k]?=W.heap[k]?:=by
     intro l;induction l with
     | nil=>intro W k _;rfl
     | cons y l ih2=>intro W k hk;simp only [List.foldl_cons];rw [ih2 (W.alloc y) k (by simp;omega),heap_alloc_old _ _ hk]
    simp only [List.foldl_cons,List.getElem_cons_zero,Nat.add_zero];rw [hfr l (W.alloc x) W.heap.size (by simp)];exact heap_alloc_new _ _
   | succ i=>
    have:=h2 i (by simpa using hi);simp only [List.foldl_cons,List.getElem_cons_succ];rw [show W.heap.size+(i+1)=W.heap.size+1+i by omega];exact this
 obtain ⟨hs,hg⟩:=key [.map #[] 0,.map #[] 0,.map #[] 0,.map #[] 0,.map #[] 0,.cells (kb0 w.heap.size (w.heap.size+1) (w.heap.size+1+1) (w.heap.size+1+1+1) (w.heap.size+1+1+1+1)) 69,o] w;simp only [List.foldl_cons,List.foldl_nil,List.length_cons,List.length_nil] at hs hg;have m:∀{κ α:Type} [DecidableEq κ] (val:κ->Value) (enc:α->Value) (b:Nat) (W:World),W.heap[b]?=some (.map #[] 0)->ei W b val enc []:=fun val enc b W hb=>⟨⟨#[],0,hb,rfl,MapKept.stamped_empty 0⟩,by simp⟩
 have g0:=hg 0 (by omega);have g1:=hg 1 (by omega);have g2:=hg 2 (by omega);have g3:=hg 3 (by omega);have g4:=hg 4 (by omega);have g5:=hg 5 (by omega);have g6:=hg 6 (by omega);refine ⟨(((((((Fr.refl _ _).alloc _).alloc _).alloc _).alloc _).alloc _).alloc _).alloc _,hs,g6,⟨⟨_,g5,bm4 _⟩,m _ _ _ _ g0,⟨m _ _ _ _ g1,(fun s x hx=>by cases hx),(fun s x hx=>by cases hx),(fun s x s' x' hx=>by cases hx)⟩,m _ _ _ _ g2,m _ _ _ _ g3,m _ _ _ _ g4,
  ?_,?_,?_,?_,?_,?_,?_,?_,?_,?_,(fun s x hx=>by cases hx),⟨(fun b q hq=>by cases hq),(fun b q b' q' hq=>by cases hq),(fun b q hq=>by cases hq)⟩⟩⟩
 all_goals (simp only [ot];omega)
theorem by7 (n:Nat)(k:Nat)(hk:(ot n).fp (n+1+1+1+1+1) k):n<=k/\k≠n+1+1+1+1+1+1:=by
 rcases hk with h | h | h | h | h | (h | ⟨s,x,hx,_⟩) | ⟨b,q,hq,_⟩
 ·omega
 ·simp only [ot] at h;omega
 ·simp only [ot] at h;omega
 ·simp only [ot] at h;omega
 ·simp only [ot] at h;omega
 ·simp only [ot] at h;omega
 ·cases hx
 ·cases hq
theorem kg.fr {w w':World}{kb:Nat}{V:ah}{K:a_}{S:Nat->Prop}(h:kg w kb V K w')(hn:∀k,V.fp kb k->S k)(hs:∀k,w.heap.size<=k->S k):
 ∃V',aq w' kb V'/\V'.ker=K/\V'.dv=V.dv/\(∀k,V'.fp kb k->S k)/\Fr w w' (V.fp kb):=by
 obtain ⟨V',h1,h2,h3,h4,h5⟩:=h;refine ⟨V',h1,h2,h3,fun k hk=>?_,h4⟩
 rcases h5 k hk with e | e
 ·exact hn k e
 ·exact hs k e
theorem aq6 {W1 W2 W3:World}{kb sb n:Nat}{V1:ah}{K:a_}{x y:Value}{t:TypeId}(hK:kg W2 kb V1 K W3)(hf2:Fr W1.drew W2 (fun _=>False))(hb1:W1.heap[sb]?=some (.cells #[x,y] t (0,0)))
 (hp:∀k,V1.fp kb k->n<=k/\k≠sb) (hn:n<=W1.heap.size):∃V3,aq W3 kb V3/\V3.ker=K/\V3.dv=V1.dv/\(∀k,V3.fp kb k->n<=k/\k≠sb)/\Fr W1 W3 (V1.fp kb)/\W3.heap[sb]?=some (.cells #[x,y] t (0,0))/\
 W3.cell? ⟨sb,0,none⟩=some x/\W3.cell? ⟨sb,1,none⟩=some y:=by
 have hlt:=(Array.getElem?_eq_some_iff.1 hb1).1;have hf:Fr W1 W2 (fun _=>False):=((Fr.refl W1 (fun _=>False)).drew).step hf2 (fun _=>False.elim);have hs:=hf.size;obtain ⟨V3,h3,hk3,hd3,hp3,hf3⟩:=hK.fr hp (fun k hk=>by omega);have hb3:=hf3.same (hf.same hb1 id) (fun e=>(hp _ e).2 rfl)
 exact ⟨V3,h3,hk3,hd3,hp3,(hf.mono (fun _=>False.elim)).step hf3 (fun k hk=>.inl hk),hb3,aa hb3 rfl,aa hb3 rfl⟩
theorem ai2 {V:ah}{p:Slot}{n:Nat}(h:∀y,V.ker.st p=some y->y.kids.length<n):∀x,am p V.M=some x->x.kids.length<n:=by
 intro x hx;exact h x.std (by simp [ah.ker,cx,hx])
theorem a15 (w:World)(hg0:w.cell? ⟨0,0,none⟩=some (.int .i64 (-1)))(hg1:w.cell? ⟨0,1,none⟩=some (.int .i64 (-1))):
 Calls Tryz.prog 10 #[] w fun e w'=>∃kb V,e=.returned (.pointer (some ⟨kb,0,none⟩))/\aq w' kb V/\V.ker=kj/\V.dv=.slice none 0 0/\(∀k,V.fp kb k->w.heap.size<=k)/\Fr w w' (fun _=>False):=by
 have hmm:=@run_makeMap Tryz.prog;have hlt:0<w.heap.size:=World.block_lt_of_cell? w _ hg0;go_enter Tryz.func10,Tryz.ntmps10
 go_wp2_with (first
  |(refine al4 rfl _ _ _ _ _ rfl rfl rfl rfl rfl rfl ?_)
  |(refine ax1 rfl _ rfl rfl ?_))
 generalize hW0:World.alloc _ _=W0;obtain ⟨hf0,hs0,hb0,h0⟩:=bm1 hW0;clear hW0 hmm;have hp0:=by7 w.heap.size;have hd0:(ot w.heap.size).dv=.slice none 0 0:=rfl;have hk0:(ot w.heap.size).ker=aa2:=rfl;have hsb:w.heap.size<=w.heap.size+1+1+1+1+1+1:=by omega
 have hsb2:w.heap.size+1+1+1+1+1+1<W0.heap.size:=by omega
 generalize w.heap.size+1+1+1+1+1+1=sb at hb0 hp0 hsb hsb2;generalize w.heap.size+1+1+1+1+1=kb at h0 hp0;generalize ot w.heap.size=V0 at h0 hp0 hd0 hk0;refine (qy V0 kb ⟨0,0⟩ ⟨-1,-1⟩ (.untyped 0 10 80) W0 h0 (ai2 (by rw [hk0];intro y hy;cases hy))).mono ?_;rintro e W1 ⟨rfl,hK⟩;rw [hk0] at hK;obtain ⟨V1,h1,hk1,hd1,hp1,hf1⟩:=hK.fr hp0 (fun k hk=>by omega);have hb1:=hf1.same hb0 (fun e=>(hp0 _ e).2 rfl)
 have hF1:Fr w W1 (fun _=>False):=hf0.step hf1 (fun k hk=>.inr (hp0 k hk).1)
 have hs1:=hf1.size;clear hK h0 hp0 hk0 hf1 hf0 hb0;have q0:=aa (o:=0) hb1 rfl;have q1:=aa (o:=1) hb1 rfl;go_wp2_with fail
 have hm1:=aj5 2 0 6;rw [show ki 2 0 6=KCap.node 0 6 7 from rfl] at hm1;have hst1:∀y,V1.ker.st ⟨0,0⟩=some y->y.kids.length<1000000:=by
  rw [hk1];intro y hy;have:(aa2.lay ⟨0,0⟩ (.untyped 0 10 80) ⟨-1,-1⟩).st ⟨0,0⟩=some ⟨⟨-1,-1⟩,[]⟩:=rfl;rw [this] at hy;cases hy;decide
 go_region_held3 (fun w'=>w'.cell? ⟨sb,0,none⟩=some (.int .i64 0)/\w'.cell? ⟨sb,1,none⟩=some (.int .i64 0)) (go_keep)
  (first
    |(go_at_call 20;refine (hm1 _).mono ?_;rintro e W2 ⟨rfl,hf2⟩;obtain ⟨g0,g1⟩:=ah3 hf2 hb1 (by simp);have h2:=h1.frame (((Fr.refl W1 (fun _=>False)).drew).step hf2 (fun _=>False.elim)) (fun _ _=>id))
    |(go_at_call 19;refine (ae3 V1 kb ⟨0,1⟩ ⟨0,0⟩ (.node 0 6 7) 0 W2 h2 (ai2 hst1) (fun b n r e=>by cases e;decide)).mono ?_;rintro e W3 ⟨rfl,hK3⟩;obtain ⟨V3,h3,hk3,hd3,hp3,hf3,hb3,g2,g3⟩:=aq6 hK3 hf2 hb1 hp1 (by omega)))
 have hF3:Fr w W3 (fun _=>False):=hF1.step hf3 (fun k hk=>.inr (hp1 k hk).1)
 have hs3:=hf3.size;rw [hk1] at hk3;clear hK3 h2 hf2 g0 g1 h1 hk1 hp1 hf3 hb1 hm1 hst1 q0 q1;have hm3:=aj5 4 64 4;rw [show ki 4 64 4=KCap.task 64 4 7 from rfl] at hm3;have hst3:∀y,V3.ker.st ⟨0,0⟩=some y->y.kids.length<1000000:=by
  rw [hk3];intro y hy;have:((aa2.lay ⟨0,0⟩ (.untyped 0 10 80) ⟨-1,-1⟩).found ⟨0,1⟩ (.node 0 6 7) ⟨0,0⟩ 0).st ⟨0,0⟩=some ⟨⟨-1,-1⟩,[⟨0,1⟩]⟩:=rfl;rw [this] at hy;cases hy;decide
 go_wp2_with fail
 go_region_held3 (fun w'=>w'.cell? ⟨sb,0,none⟩=some (.int .i64 0)/\w'.cell? ⟨sb,1,none⟩=some (.int .i64 0)) (go_keep)
  (first
    |(go_at_call 20;refine (hm3 _).mono ?_;rintro e W4 ⟨rfl,hf4⟩;obtain ⟨g0,g1⟩:=ah3 hf4 hb3 (by simp);have h4:=h3.frame (((Fr.refl W3 (fun _=>False)).drew).step hf4 (fun _=>False.elim)) (fun _ _=>id))
    |(go_at_call 19;refine (ae3 V3 kb ⟨0,2⟩ ⟨0,0⟩ (.task 64 4 7) 0 W4 h4 (ai2 hst3) (fun b n r e=>by cases e)).mono ?_;rintro e W5 ⟨rfl,hK5⟩;obtain ⟨V5,h5,hk5,hd5,hp5,hf5,hb5,g4,g5⟩:=aq6 hK5 hf4 hb3 hp3 (by omega)))
 have hF5:Fr w W5 (fun _=>False):=hF3.step hf5 (fun k hk=>.inr (hp3 k hk).1)
 rw [hk3] at hk5;clear hK5 h4 hf4 g0 g1 h3 hk3 hp3 hf5 hb3 hm3 hst3 g2 g3;go_wp2;go_ret;exact ⟨kb,V5,rfl,h5,hk5,by rw [hd5,hd3,hd1,hd0],fun k hk=>(hp5 k hk).1,hF5⟩
def pb (kb:Nat)(c:Cl)(av tv:Value)(th root:Int)(bv:Value):Array Value:=
 #[.pointer (some ⟨kb,0,none⟩),.int .i64 c.kind,av,tv,.int .i64 c.ty,.int .i64 c.bits,.int .i64 c.count,.int .i64 c.rights,.int .i64 c.badge,.int .i64 c.value,.int .i64 c.offset,.int .i64 th,.int .i64 root,bv]
def ef (w:World)(ub kb:Nat)(c:Cl)(av tv:Value)(th root:Int)(bv:Value):Prop:=w.heap[ub]?=some (.cells (pb kb c av tv th root bv) 92 (0,0))
theorem ef.frame {w w':World}{ub kb:Nat}{c:Cl}{av tv bv:Value}{th root:Int}{S:Nat->Prop}(h:ef w ub kb c av tv th root bv)(hf:Fr w w' S)(hn:¬S ub):ef w' ub kb c av tv th root bv:=hf.same h hn
section
variable {w:World} {ub kb:Nat} {c:Cl} {av tv bv:Value} {th root:Int} (h:ef w ub kb c av tv th root bv)
include h
theorem ef.ck:w.cell? ⟨ub,0,none⟩=some (.pointer (some ⟨kb,0,none⟩)):=aa h rfl
theorem ef.cat:w.cell? ⟨ub,2,none⟩=some av:=aa h rfl
theorem ef.cto:w.cell? ⟨ub,3,none⟩=some tv:=aa h rfl
theorem ef.cty:w.cell? ⟨ub,4,none⟩=some (.int .i64 c.ty):=aa h rfl
theorem ef.cbits:w.cell? ⟨ub,5,none⟩=some (.int .i64 c.bits):=aa h rfl
theorem ef.ccount:w.cell? ⟨ub,6,none⟩=some (.int .i64 c.count):=aa h rfl
theorem ef.crights:w.cell? ⟨ub,7,none⟩=some (.int .i64 c.rights):=aa h rfl
theorem ef.cbadge:w.cell? ⟨ub,8,none⟩=some (.int .i64 c.badge):=aa h rfl
theorem ef.cvalue:w.cell? ⟨ub,9,none⟩=some (.int .i64 c.value):=aa h rfl
theorem ef.croot:w.cell? ⟨ub,12,none⟩=some (.int .i64 root):=aa h rfl
theorem ef.cbv:w.cell? ⟨ub,13,none⟩=some bv:=aa h rfl
theorem ef.lt:ub<w.heap.size:=(Array.getElem?_eq_some_iff.1 h).1
end
def ak7 (e:Int):Value:=.iface 85 (.agg #[.int .i64 e])
def gup (e:Int):Ending:=.panicked [{v:=ak7 e,recovered:=false}]
def js (K:a_)(b x:Int):Ending:=if okK K b x then .returned (.agg #[.int .i64 b,.int .i64 x]) else gup 2
theorem a94 {w:World}{kb:Nat}{V:ah}(h:aq w kb V)(b:Int):(Instr.lookup 62 (.map (some V.nb)) (.int .i64 b) false).run Tryz.prog w=.ok (.int .i64 (bt V.ker b)) w:=by
 have:=h.nodes.look_run ku Tryz.underlying62 (z:=.int .i64 0) (by kernel_rfl) b false;simp only [ke] at this;rw [this];simp only [bt,ah.ker];cases am b V.N<;>rfl
theorem vn (V:ah)(kb ub:Nat)(c:Cl)(av tv bv:Value)(th root:Int)(b x:Int)(w:World)(h:aq w kb V)(hu:ef w ub kb c av tv th root bv):
 Calls Tryz.prog 94 #[.pointer (some ⟨ub,0,none⟩),.int .i64 b,.int .i64 x] w fun e w'=>e=js V.ker b x/\Fr w w' (fun _=>False):=by
 have hf:=(Fr.refl w (fun _=>False)).alloc (.cells #[.int .i64 0,.int .i64 0] 71);have h1:=h.frame hf (fun _ _=>id);have hrun:=a94 h1 b;have cu:=hu.ck;have cn:=h.cn;have hult:=World.block_lt_of_cell? w _ cu;have hklt:=World.block_lt_of_cell? w _ cn;have ha:js V.ker b x=if 0<=x/\x<bt V.ker b then .returned (.agg #[.int .i64 b,.int .i64 x]) else gup 2:=by simp [js,okK]
 rw [ha];clear ha;generalize bt V.ker b=n at hrun;by_cases hx0:x<0
 ·rw [if_neg (by omega)];have hx1:decide (x<0)=true:=by simpa using hx0
  go_enter Tryz.func94,Tryz.ntmps94
  go_wp2;exact ⟨rfl,rfl,hf⟩
 ·have hx1:decide (x<0)=false:=by simpa using hx0
  by_cases hx2:x<n
  ·rw [if_pos (by omega)];have hx3:¬n<=x:=by omega
   go_enter Tryz.func94,Tryz.ntmps94
   go_wp2;refine bodyPost_ret (v:=.agg #[.int .i64 b,.int .i64 x]) (by simp [results,Tryz.results94,go_sem]) rfl ⟨rfl,?_⟩;exact (Fr.refl _ _).alloc _
  ·rw [if_neg (by omega)];have hx3:n<=x:=by omega
   go_enter Tryz.func94,Tryz.ntmps94
   go_wp2;exact ⟨rfl,rfl,hf⟩
def jf:Option KCap->Value
 | some c=>c.val
 | none=>.nilIface
theorem be {w:World}{kb:Nat}{V:ah}(h:aq w kb V)(s:Slot)(c:Bool):(Instr.lookup 59 (.map (some V.hb)) (.agg #[.int .i64 s.node,.int .i64 s.index]) c).run Tryz.prog w =
 .ok (if c then .tuple #[jf (V.ker.held s),.bool (V.ker.held s).isSome] else jf (V.ker.held s)) w:=by
 have:=h.held.look_run em Tryz.underlying59 (z:=.nilIface) (by kernel_rfl) s c;simp only [Slot.val] at this;rw [this];simp only [ah.ker];cases am s V.H<;>rfl
def o5 (K:a_)(s:Slot):Ending:=
 match nf K s with
 | some b=>.returned (.int .i64 b)
 | none=>gup 2
theorem ng (V:ah)(kb ub:Nat)(c:Cl)(av tv bv:Value)(th root:Int)(s:Slot)(w:World)(h:aq w kb V)(hu:ef w ub kb c av tv th root bv)(x y z:Int)(t:Bool)
 (hta:∀W,(Instr.typeAssert (jf (V.ker.held s)) 79 119 true).run Tryz.prog W=.ok (.tuple #[.agg #[.int .i64 x,.int .i64 y,.int .i64 z],.bool t]) W) :
 Calls Tryz.prog 95 #[.pointer (some ⟨ub,0,none⟩),.agg #[.int .i64 s.node,.int .i64 s.index]] w fun e w'=>e=(if t then .returned (.int .i64 x) else gup 2)/\Fr w w' (fun _=>False):=by
 have hult:=hu.lt;have hklt:=h.fpLt (k:=kb) (.inl rfl);generalize hans:(if t then Ending.returned (Value.int IntKind.i64 x) else gup 2)=ans;go_enter Tryz.func95,Tryz.ntmps95
 go_wp2_with fail
 generalize hW0:w.alloc _=W0;have hf0:Fr w W0 (fun _=>False):=by rw [<- hW0];exact (Fr.refl _ _).alloc _
 have hb0:W0.heap[w.heap.size]?=some (.cells #[.int .i64 s.node,.int .i64 s.index] 71 (0,0)):=by rw [<- hW0];exact heap_alloc_new _ _
 clear hW0;have h0:=h.frame hf0 (fun _ _=>id);have hu0:=hu.frame hf0 id;have c1:=hu0.ck;have c2:=h0.ch;have c3:=aa (o:=0) hb0 rfl;have c4:=aa (o:=1) hb0 rfl;have hrun:=be (h0.frame ((Fr.refl W0 (fun _=>False)).drew) (fun _ _=>id)) s false;have hf1:=(Fr.refl W0 (fun _=>False)).alloc (.cells #[.int .i64 0,.int .i64 0,.int .i64 0] 119);have hrun2:=be (h0.frame hf1.drew (fun _ _=>id)) s false;have hlt0:ub<W0.heap.size:=hu0.lt;have hlt1:kb<W0.heap.size:=h0.fpLt (k:=kb) (.inl rfl);have hlt2:w.heap.size<W0.heap.size:=(Array.getElem?_eq_some_iff.1 hb0).1;simp only [Bool.false_eq_true,if_false] at hrun hrun2;generalize jf (V.ker.held s)=hv at hrun hrun2 hta;go_region_held3 (fun w'=>w'.cell? ⟨ub,0,none⟩=some (.pointer (some ⟨kb,0,none⟩))/\w'.cell? ⟨kb,1024,none⟩=some (.map (some V.hb))/\w'.cell? ⟨w.heap.size,0,none⟩=some (.int .i64 s.node)/\w'.cell? ⟨w.heap.size,1,none⟩=some (.int .i64 s.index)) (go_keep) (fail)
 all_goals clear hrun hrun2 hta c1 c2 c3 c4 h0 hu0
 all_goals subst hans
 all_goals cases t
 all_goals (first | (go_wp2;go_ret;exact ⟨rfl,(hf0.alloc _).drew⟩) | (go_wp2;exact ⟨rfl,rfl,(hf0.alloc _).drew⟩))
theorem a78 (V:ah)(kb ub:Nat)(c:Cl)(av tv bv:Value)(th root:Int)(s:Slot)(w:World)(h:aq w kb V)(hu:ef w ub kb c av tv th root bv):
 Calls Tryz.prog 95 #[.pointer (some ⟨ub,0,none⟩),.agg #[.int .i64 s.node,.int .i64 s.index]] w fun e w'=>e=o5 V.ker s/\Fr w w' (fun _=>False):=by
 cases hk:V.ker.held s with
 | none=>
  have:=ng V kb ub c av tv bv th root s w h hu 0 0 0 false (by rw [hk];exact af8);simpa [o5,nf,hk] using this
 | some k=>
  cases k with
  | untyped b n m=>
   have:=ng V kb ub c av tv bv th root s w h hu 0 0 0 false (by rw [hk];exact jw _);simpa [o5,nf,hk] using this
  | node b n r=>
   have:=ng V kb ub c av tv bv th root s w h hu b n r true (by rw [hk];exact ly _);simpa [o5,nf,hk] using this
  | endpoint b n r g=>
   have:=ng V kb ub c av tv bv th root s w h hu 0 0 0 false (by rw [hk];exact jm _);simpa [o5,nf,hk] using this
  | task b n r=>
   have:=ng V kb ub c av tv bv th root s w h hu 0 0 0 false (by rw [hk];exact o7 _);simpa [o5,nf,hk] using this
  | frame b n r=>
   have:=ng V kb ub c av tv bv th root s w h hu 0 0 0 false (by rw [hk];exact j_ _);simpa [o5,nf,hk] using this
end Go.Proofs.YtdpjgflemddekaaGreatDoor
