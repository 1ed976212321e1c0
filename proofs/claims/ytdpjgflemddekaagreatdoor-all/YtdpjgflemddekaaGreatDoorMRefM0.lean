/- The document's answer: the zero kernel. -/
import Derived.Test.YtdpjgflemddekaaGreatDoorMTRo
set_option maxRecDepth 100000
set_option maxHeartbeats 4000000
namespace Go.Proofs.YtdpjgflemddekaaGreatDoor
open Go.RowKit
def uq:Value:=.slice none 0 0
def V0:ax:=⟨uq,uq,uq,uq,uq,uq,.bool false,fun _=>0⟩
def rn:Array Value:=#[uq]++Array.replicate 1024 (.int .i64 0)++#[uq,uq,uq,uq,uq,.bool false]
theorem b16:Tryz.zeroCells106=rn:=by kernel_rfl
theorem a60:a76 V0 rn:=by
 refine ⟨by simp [rn],by simp [rn,V0],?_,by simp [rn,V0],by simp [rn,V0],by simp [rn,V0],by simp [rn,V0],by simp [rn,V0],by simp [rn,V0]⟩;intro i hi;unfold rn;rw [Array.getElem?_append_left (by simp;omega),Array.getElem?_append_right (by simp)];simp [V0,hi]
def aq_:dq:=⟨[⟨0,0,1,0,10,7,0,80,0⟩,⟨0,1,2,0,6,7,0,0,1⟩,⟨0,2,4,64,4,7,0,0,1⟩],[⟨0,6⟩],[⟨64,1,0,0,0,0⟩]⟩
theorem b12 {w W1:World}(hb1:W1.heap[w.heap.size]?=some (.cells rn 106 (0,0))):aj W1 w.heap.size ⟨[],[],[]⟩ V0:=
 ⟨⟨_,hb1,a60⟩,World.ownsRow_nil _ _ _ _,World.ownsRow_nil _ _ _ _,World.ownsRow_nil _ _ _ _,by simp [V0,uq,Value.ownBlock],by simp [V0,uq,Value.ownBlock],by simp [V0,uq,Value.ownBlock],by simp [V0,uq,Value.ownBlock],by simp [V0,uq,Value.ownBlock],by simp [V0,uq,Value.ownBlock]⟩
theorem bo6 {w W Y:World}{R:dq}{V:ax}{o:Obj}{x:aw}{g cap:Nat}(h:aj W w.heap.size R V)(hf:Fr w W (fun _=>False))(hp:∀k,V.fp w.heap.size k->w.heap.size<=k)(hg:(W.alloc o).grownBy Y V.lv.ownBlock)
 (hown:Y.ownsRow 0 108 9 (.slice (some ⟨g,0,none⟩) (R.L.length+1) cap) (R.L.length+1) (gn R.L++x.vals)) (hat:V.lv.ownBlock=some g\/g=W.heap.size+1) :
 Y.cell? ⟨w.heap.size,0,none⟩=some V.lv/\Y.frozen? ⟨w.heap.size,0,none⟩=false/\aj (Y.setCell ⟨w.heap.size,0,none⟩ (.slice (some ⟨g,0,none⟩) (R.L.length+1) cap)) w.heap.size {R with L:=R.L++[x]} {V with lv:=.slice (some ⟨g,0,none⟩) (R.L.length+1) cap}/\
 Fr w (Y.setCell ⟨w.heap.size,0,none⟩ (.slice (some ⟨g,0,none⟩) (R.L.length+1) cap)) (fun _=>False)/\(∀k,({V with lv:=.slice (some ⟨g,0,none⟩) (R.L.length+1) cap}:ax).fp w.heap.size k->w.heap.size<=k):=by
 have hf7:Fr W Y (fun r=>V.lv.ownBlock=some r):=((Fr.refl W (fun r=>V.lv.ownBlock=some r)).alloc _).grown hg (fun r hr=>.inl hr);have hk:w.heap.size<W.heap.size:=World.block_lt_of_cell? W _ h.cl;refine ⟨hf7.cell h.cl h.kl,(World.frozen?_of_block (hf7.block _ hk h.kl)).trans (h.fz _),h.pushL (x:=x) hg rfl hown hat,?_,?_⟩
 ·exact ((hf.alloc _).grown hg (fun r hr=>.inr (hp r (.inr (.inl hr))))).setCell (.inr (Nat.le_refl _)) _ _
 ·rintro k (h9 | h9 | h9 | h9)
  ·exact hp k (.inl h9)
  ·cases h9
   rcases hat with h10 | h10
   ·exact hp _ (.inr (.inl h10))
   ·show w.heap.size<=g;omega
  ·exact hp k (.inr (.inr (.inl h9)))
  ·exact hp k (.inr (.inr (.inr h9)))
theorem b75 {w W Y:World}{R:dq}{V:ax}{o:Obj}{x:pp}{g cap:Nat}(h:aj W w.heap.size R V)(hf:Fr w W (fun _=>False))(hp:∀k,V.fp w.heap.size k->w.heap.size<=k)(hg:(W.alloc o).grownBy Y V.nv.ownBlock)
 (hown:Y.ownsRow 0 110 2 (.slice (some ⟨g,0,none⟩) (R.N.length+1) cap) (R.N.length+1) (ap6 R.N++x.vals)) (hat:V.nv.ownBlock=some g\/g=W.heap.size+1) :
 Y.cell? ⟨w.heap.size,1025,none⟩=some V.nv/\Y.frozen? ⟨w.heap.size,1025,none⟩=false/\aj (Y.setCell ⟨w.heap.size,1025,none⟩ (.slice (some ⟨g,0,none⟩) (R.N.length+1) cap)) w.heap.size {R with N:=R.N++[x]} {V with nv:=.slice (some ⟨g,0,none⟩) (R.N.length+1) cap}/\
 Fr w (Y.setCell ⟨w.heap.size,1025,none⟩ (.slice (some ⟨g,0,none⟩) (R.N.length+1) cap)) (fun _=>False)/\(∀k,({V with nv:=.slice (some ⟨g,0,none⟩) (R.N.length+1) cap}:ax).fp w.heap.size k->w.heap.size<=k):=by
 have hf7:Fr W Y (fun r=>V.nv.ownBlock=some r):=((Fr.refl W (fun r=>V.nv.ownBlock=some r)).alloc _).grown hg (fun r hr=>.inl hr);have hk:w.heap.size<W.heap.size:=World.block_lt_of_cell? W _ h.cl;refine ⟨hf7.cell h.cn h.kn,(World.frozen?_of_block (hf7.block _ hk h.kn)).trans (h.fz _),h.pushN (x:=x) hg rfl hown hat,?_,?_⟩
 ·exact ((hf.alloc _).grown hg (fun r hr=>.inr (hp r (.inr (.inr (.inl hr)))))).setCell (.inr (Nat.le_refl _)) _ _
 ·rintro k (h9 | h9 | h9 | h9)
  ·exact hp k (.inl h9)
  ·exact hp k (.inr (.inl h9))
  ·cases h9
   rcases hat with h10 | h10
   ·exact hp _ (.inr (.inr (.inl h10)))
   ·show w.heap.size<=g;omega
  ·exact hp k (.inr (.inr (.inr h9)))
theorem b7_ {w W Y:World}{R:dq}{V:ax}{o:Obj}{x:ej}{g cap:Nat}(h:aj W w.heap.size R V)(hf:Fr w W (fun _=>False))(hp:∀k,V.fp w.heap.size k->w.heap.size<=k)(hg:(W.alloc o).grownBy Y V.tv.ownBlock)
 (hown:Y.ownsRow 0 112 6 (.slice (some ⟨g,0,none⟩) (R.T.length+1) cap) (R.T.length+1) (xz R.T++x.vals)) (hat:V.tv.ownBlock=some g\/g=W.heap.size+1) :
 Y.cell? ⟨w.heap.size,1026,none⟩=some V.tv/\Y.frozen? ⟨w.heap.size,1026,none⟩=false/\aj (Y.setCell ⟨w.heap.size,1026,none⟩ (.slice (some ⟨g,0,none⟩) (R.T.length+1) cap)) w.heap.size {R with T:=R.T++[x]} {V with tv:=.slice (some ⟨g,0,none⟩) (R.T.length+1) cap}/\
 Fr w (Y.setCell ⟨w.heap.size,1026,none⟩ (.slice (some ⟨g,0,none⟩) (R.T.length+1) cap)) (fun _=>False)/\(∀k,({V with tv:=.slice (some ⟨g,0,none⟩) (R.T.length+1) cap}:ax).fp w.heap.size k->w.heap.size<=k):=by
 have hf7:Fr W Y (fun r=>V.tv.ownBlock=some r):=((Fr.refl W (fun r=>V.tv.ownBlock=some r)).alloc _).grown hg (fun r hr=>.inl hr);have hk:w.heap.size<W.heap.size:=World.block_lt_of_cell? W _ h.cl;refine ⟨hf7.cell h.ct h.kt,(World.frozen?_of_block (hf7.block _ hk h.kt)).trans (h.fz _),h.pushT (x:=x) hg rfl hown hat,?_,?_⟩
 ·exact ((hf.alloc _).grown hg (fun r hr=>.inr (hp r (.inr (.inr (.inr hr)))))).setCell (.inr (Nat.le_refl _)) _ _
 ·rintro k (h9 | h9 | h9 | h9)
  ·exact hp k (.inl h9)
  ·exact hp k (.inr (.inl h9))
  ·exact hp k (.inr (.inr (.inl h9)))
  ·cases h9
   rcases hat with h10 | h10
   ·exact hp _ (.inr (.inr (.inr h10)))
   ·show w.heap.size<=g;omega
theorem bn4 (w:World):
 Calls Tryz.prog 14 #[] w fun e' w'=>e'=.returned (.pointer (some ⟨w.heap.size,0,none⟩))/\
  ∃V,aj w' w.heap.size aq_ V/\V.qv=uq/\V.dv=uq/\(∀i,V.ws i=0)/\Fr w w' (fun _=>False)/\(∀k,V.fp w.heap.size k->w.heap.size<=k):=by
 obtain ⟨iL,hiL,hL0,hL2,hL3⟩:=info_parts av0;obtain ⟨iN,hiN,hN0,hN2,hN3⟩:=info_parts bg4;obtain ⟨iT,hiT,hT0,hT2,hT3⟩:=info_parts bh8;go_enter Tryz.func14,Tryz.ntmps14
 go_upto_region 2 with fail
 rw [b16];have hb1:=heap_alloc_new w (.cells rn 106);have hf0:Fr w (w.alloc (.cells rn 106)) (fun _=>False):=(Fr.refl _ _).alloc _;generalize w.alloc (.cells rn 106)=W0 at *
 have h0:=b12 hb1;have hp0:∀k,V0.fp w.heap.size k->w.heap.size<=k:=by rintro k (h9 | h9 | h9 | h9);exact Nat.le_of_eq h9.symm;cases h9;cases h9;cases h9
 clear hb1;have c0:W0.cell? ⟨w.heap.size,0,none⟩=some (.slice none 0 0):=h0.cl;have o0:W0.ownsRow 0 108 9 (.slice none 0 0) 0 _:=h0.l;have s0:w.heap.size<W0.heap.size:=World.block_lt_of_cell? _ _ c0;go_wp2_with (at_builtin;go_must (refine wpList_append_lies _ rfl _ _ 100 rfl 0 108 iL _ 9 72 Tryz.underlying100 hiL hL0 hL2 hL3 rfl (by decide) _ _ _ rfl (World.ownsRow.alloc o0 _) ⟨_,0,none⟩ 1 1 [.int .i64 0,.int .i64 0,.int .i64 1,.int .i64 0,.int .i64 10,.int .i64 7,.int .i64 0,.int .i64 80,.int .i64 0] rfl rfl (dg _ _ _) (aw.one ⟨0,0,1,0,10,7,0,80,0⟩) (by decide) (by unfold maxLen;omega) (by omega) (Nat.zero_le _) (W0.heap.size+1) (by simp) ?_))
 intro g1 cap1 Y1 hown1 hg1 hat1 hlt1;obtain ⟨d1,z1,h1,hf1,hp1⟩:=bo6 (x:=⟨0,0,1,0,10,7,0,80,0⟩) h0 hf0 hp0 hg1 hown1 hat1;have h1':aj (Y1.setCell ⟨w.heap.size,0,none⟩ (.slice (some ⟨g1,0,none⟩) 1 cap1)) w.heap.size (⟨[⟨0,0,1,0,10,7,0,80,0⟩],[],[]⟩:dq) {V0 with lv:=.slice (some ⟨g1,0,none⟩) 1 cap1}:=h1;have hf1':Fr w (Y1.setCell ⟨w.heap.size,0,none⟩ (.slice (some ⟨g1,0,none⟩) 1 cap1)) (fun _=>False):=hf1;have hp1':∀k,({V0 with lv:=.slice (some ⟨g1,0,none⟩) 1 cap1}:ax).fp w.heap.size k->w.heap.size<=k:=hp1;clear hown1 hg1 hat1 hlt1 c0 o0 h0 hf0 hp0 s0 h1 hf1 hp1;have d1':Y1.cell? ⟨w.heap.size,0,none⟩=some (.slice none 0 0):=d1;clear d1;go_upto_region 3 with fail
 generalize hgen:Y1.setCell ⟨w.heap.size,0,none⟩ (.slice (some ⟨g1,0,none⟩) 1 cap1)=W1 at *
 clear hgen d1' z1;have c1:W1.cell? ⟨w.heap.size,0,none⟩=some (.slice (some ⟨g1,0,none⟩) 1 cap1):=h1'.cl;have o1:W1.ownsRow 0 108 9 (.slice (some ⟨g1,0,none⟩) 1 cap1) 1 _:=h1'.l;have s1:w.heap.size<W1.heap.size:=World.block_lt_of_cell? _ _ c1;go_wp2_with (at_builtin;go_must (refine wpList_append_lies _ rfl _ _ 100 rfl 0 108 iL _ 9 72 Tryz.underlying100 hiL hL0 hL2 hL3 rfl (by decide) _ _ _ rfl (World.ownsRow.alloc o1 _) ⟨_,0,none⟩ 1 1 [.int .i64 0,.int .i64 1,.int .i64 2,.int .i64 0,.int .i64 6,.int .i64 7,.int .i64 0,.int .i64 0,.int .i64 1] rfl rfl (dg _ _ _) (aw.one ⟨0,1,2,0,6,7,0,0,1⟩) (by decide) (by unfold maxLen;omega) (by omega) (Nat.zero_le _) (W1.heap.size+1) (by simp) ?_))
 intro g2 cap2 Y2 hown2 hg2 hat2 hlt2;obtain ⟨d2,z2,h2,hf2,hp2⟩:=bo6 (x:=⟨0,1,2,0,6,7,0,0,1⟩) h1' hf1' hp1' hg2 hown2 hat2;have h2':aj (Y2.setCell ⟨w.heap.size,0,none⟩ (.slice (some ⟨g2,0,none⟩) 2 cap2)) w.heap.size (⟨[⟨0,0,1,0,10,7,0,80,0⟩,⟨0,1,2,0,6,7,0,0,1⟩],[],[]⟩:dq) {V0 with lv:=.slice (some ⟨g2,0,none⟩) 2 cap2}:=h2;have hf2':Fr w (Y2.setCell ⟨w.heap.size,0,none⟩ (.slice (some ⟨g2,0,none⟩) 2 cap2)) (fun _=>False):=hf2;have hp2':∀k,({V0 with lv:=.slice (some ⟨g2,0,none⟩) 2 cap2}:ax).fp w.heap.size k->w.heap.size<=k:=hp2;clear hown2 hg2 hat2 hlt2 c1 o1 h1' hf1' hp1' s1 h2 hf2 hp2;have d2':Y2.cell? ⟨w.heap.size,0,none⟩=some (.slice (some ⟨g1,0,none⟩) 1 cap1):=d2;clear d2;go_upto_region 4 with fail
 generalize hgen:Y2.setCell ⟨w.heap.size,0,none⟩ (.slice (some ⟨g2,0,none⟩) 2 cap2)=W2 at *
 clear hgen d2' z2;have c2:W2.cell? ⟨w.heap.size,0,none⟩=some (.slice (some ⟨g2,0,none⟩) 2 cap2):=h2'.cl;have o2:W2.ownsRow 0 108 9 (.slice (some ⟨g2,0,none⟩) 2 cap2) 2 _:=h2'.l;have s2:w.heap.size<W2.heap.size:=World.block_lt_of_cell? _ _ c2;go_wp2_with (at_builtin;go_must (refine wpList_append_lies _ rfl _ _ 100 rfl 0 108 iL _ 9 72 Tryz.underlying100 hiL hL0 hL2 hL3 rfl (by decide) _ _ _ rfl (World.ownsRow.alloc o2 _) ⟨_,0,none⟩ 1 1 [.int .i64 0,.int .i64 2,.int .i64 4,.int .i64 64,.int .i64 4,.int .i64 7,.int .i64 0,.int .i64 0,.int .i64 1] rfl rfl (dg _ _ _) (aw.one ⟨0,2,4,64,4,7,0,0,1⟩) (by decide) (by unfold maxLen;omega) (by omega) (Nat.zero_le _) (W2.heap.size+1) (by simp) ?_))
 intro g3 cap3 Y3 hown3 hg3 hat3 hlt3;obtain ⟨d3,z3,h3,hf3,hp3⟩:=bo6 (x:=⟨0,2,4,64,4,7,0,0,1⟩) h2' hf2' hp2' hg3 hown3 hat3;have h3':aj (Y3.setCell ⟨w.heap.size,0,none⟩ (.slice (some ⟨g3,0,none⟩) 3 cap3)) w.heap.size (⟨[⟨0,0,1,0,10,7,0,80,0⟩,⟨0,1,2,0,6,7,0,0,1⟩,⟨0,2,4,64,4,7,0,0,1⟩],[],[]⟩:dq) {V0 with lv:=.slice (some ⟨g3,0,none⟩) 3 cap3}:=h3;have hf3':Fr w (Y3.setCell ⟨w.heap.size,0,none⟩ (.slice (some ⟨g3,0,none⟩) 3 cap3)) (fun _=>False):=hf3;have hp3':∀k,({V0 with lv:=.slice (some ⟨g3,0,none⟩) 3 cap3}:ax).fp w.heap.size k->w.heap.size<=k:=hp3;clear hown3 hg3 hat3 hlt3 c2 o2 h2' hf2' hp2' s2 h3 hf3 hp3;have d3':Y3.cell? ⟨w.heap.size,0,none⟩=some (.slice (some ⟨g2,0,none⟩) 2 cap2):=d3;clear d3;go_upto_region 5 with fail
 generalize hgen:Y3.setCell ⟨w.heap.size,0,none⟩ (.slice (some ⟨g3,0,none⟩) 3 cap3)=W3 at *
 clear hgen d3' z3;have c3:W3.cell? ⟨w.heap.size,1025,none⟩=some (.slice none 0 0):=h3'.cn;have o3:W3.ownsRow 0 110 2 (.slice none 0 0) 0 _:=h3'.n;have s3:w.heap.size<W3.heap.size:=World.block_lt_of_cell? _ _ c3;go_wp2_with (at_builtin;go_must (refine wpList_append_lies _ rfl _ _ 102 rfl 0 110 iN _ 2 16 Tryz.underlying102 hiN hN0 hN2 hN3 rfl (by decide) _ _ _ rfl (World.ownsRow.alloc o3 _) ⟨_,0,none⟩ 1 1 [.int .i64 0,.int .i64 6] rfl rfl (dg _ _ _) (pp.one ⟨0,6⟩) (by decide) (by unfold maxLen;omega) (by omega) (Nat.zero_le _) (W3.heap.size+1) (by simp) ?_))
 intro g4 cap4 Y4 hown4 hg4 hat4 hlt4;obtain ⟨d4,z4,h4,hf4,hp4⟩:=b75 (x:=⟨0,6⟩) h3' hf3' hp3' hg4 hown4 hat4;have h4':aj (Y4.setCell ⟨w.heap.size,1025,none⟩ (.slice (some ⟨g4,0,none⟩) 1 cap4)) w.heap.size (⟨[⟨0,0,1,0,10,7,0,80,0⟩,⟨0,1,2,0,6,7,0,0,1⟩,⟨0,2,4,64,4,7,0,0,1⟩],[⟨0,6⟩],[]⟩:dq) {V0 with lv:=.slice (some ⟨g3,0,none⟩) 3 cap3,nv:=.slice (some ⟨g4,0,none⟩) 1 cap4}:=h4;have hf4':Fr w (Y4.setCell ⟨w.heap.size,1025,none⟩ (.slice (some ⟨g4,0,none⟩) 1 cap4)) (fun _=>False):=hf4;have hp4':∀k,({V0 with lv:=.slice (some ⟨g3,0,none⟩) 3 cap3,nv:=.slice (some ⟨g4,0,none⟩) 1 cap4}:ax).fp w.heap.size k->w.heap.size<=k:=hp4;clear hown4 hg4 hat4 hlt4 c3 o3 h3' hf3' hp3' s3 h4 hf4 hp4;have d4':Y4.cell? ⟨w.heap.size,1025,none⟩=some (.slice none 0 0):=d4;clear d4;go_upto_region 6 with fail
 generalize hgen:Y4.setCell ⟨w.heap.size,1025,none⟩ (.slice (some ⟨g4,0,none⟩) 1 cap4)=W4 at *
 clear hgen d4' z4;have c4:W4.cell? ⟨w.heap.size,1026,none⟩=some (.slice none 0 0):=h4'.ct;have o4:W4.ownsRow 0 112 6 (.slice none 0 0) 0 _:=h4'.t;have s4:w.heap.size<W4.heap.size:=World.block_lt_of_cell? _ _ c4;go_wp2_with (at_builtin;go_must (refine wpList_append_lies _ rfl _ _ 103 rfl 0 112 iT _ 6 48 Tryz.underlying103 hiT hT0 hT2 hT3 rfl (by decide) _ _ _ rfl (World.ownsRow.alloc o4 _) ⟨_,0,none⟩ 1 1 [.int .i64 64,.int .i64 1,.int .i64 0,.int .i64 0,.int .i64 0,.int .i64 0] rfl rfl (dg _ _ _) (ej.one ⟨64,1,0,0,0,0⟩) (by decide) (by unfold maxLen;omega) (by omega) (Nat.zero_le _) (W4.heap.size+1) (by simp) ?_))
 intro g5 cap5 Y5 hown5 hg5 hat5 hlt5;obtain ⟨d5,z5,h5,hf5,hp5⟩:=b7_ (x:=⟨64,1,0,0,0,0⟩) h4' hf4' hp4' hg5 hown5 hat5;have h5':aj (Y5.setCell ⟨w.heap.size,1026,none⟩ (.slice (some ⟨g5,0,none⟩) 1 cap5)) w.heap.size (⟨[⟨0,0,1,0,10,7,0,80,0⟩,⟨0,1,2,0,6,7,0,0,1⟩,⟨0,2,4,64,4,7,0,0,1⟩],[⟨0,6⟩],[⟨64,1,0,0,0,0⟩]⟩:dq) {V0 with lv:=.slice (some ⟨g3,0,none⟩) 3 cap3,nv:=.slice (some ⟨g4,0,none⟩) 1 cap4,tv:=.slice (some ⟨g5,0,none⟩) 1 cap5}:=h5;have hf5':Fr w (Y5.setCell ⟨w.heap.size,1026,none⟩ (.slice (some ⟨g5,0,none⟩) 1 cap5)) (fun _=>False):=hf5;have hp5':∀k,({V0 with lv:=.slice (some ⟨g3,0,none⟩) 3 cap3,nv:=.slice (some ⟨g4,0,none⟩) 1 cap4,tv:=.slice (some ⟨g5,0,none⟩) 1 cap5}:ax).fp w.heap.size k->w.heap.size<=k:=hp5;clear hown5 hg5 hat5 hlt5 c4 o4 h4' hf4' hp4' s4 h5 hf5 hp5;have d5':Y5.cell? ⟨w.heap.size,1026,none⟩=some (.slice none 0 0):=d5;clear d5;go_wp2;go_ret;exact ⟨rfl,_,h5',rfl,rfl,fun _=>rfl,hf5',hp5'⟩
end Go.Proofs.YtdpjgflemddekaaGreatDoor
namespace Go.Proofs.YtdpjgflemddekaaGreatDoor
open Go.RowKit Go.Shelf
def j1:co:=⟨fun _=>.slice none 0 0,fun _=>[]⟩
theorem ai4 {w:World}{wb:Nat}(h:w.heap[wb]?=some (.cells (gw j1) 30 (0,0))):io w wb j1:=
 ⟨h,fun _ _=>World.ownsRow_nil _ _ _ _,fun _ _ e=>by simp [j1,Value.ownBlock] at e,fun _ _ _ _ _ k e=>by simp [j1,Value.ownBlock] at e,
  fun k ⟨j,v,_,_,h,_⟩=>by simp [j1] at h,fun k ⟨j,v,_,_,h,_⟩=>by simp [j1] at h⟩
theorem bu3 (w:World):
 Calls Tryz.prog 14 #[] w fun e' w'=>∃ky V,e'=.returned (.pointer (some ⟨ky,0,none⟩))/\RD w' ky ⟨aq_,[],fun _=>0,[]⟩ V/\Fr w w' (fun _=>False)/\(∀k,V.fq ky k->w.heap.size<=k):=
 (bn4 w).mono fun _ _ ⟨h1,V,h2,h3,h4,h5,h6,h7⟩=>⟨_,V,h1,⟨h2,funext h5,by rw [h4];exact World.ownsRow_nil _ _ _ _,(fun k hk=>by rw [h4] at hk;cases hk),by rw [h3];exact World.ownsRow_nil _ _ _ _,(fun k hk=>by rw [h3] at hk;cases hk)⟩,h6,fun k hk=>hk.elim (h7 k) (fun e=>e.elim (fun e=>by rw [h4] at e;cases e) (fun e=>by rw [h3] at e;cases e))⟩
theorem bp9:(Tryz.prog.info? 49).map (fun i=>(i.zero,i.size,i.bytes))=some (some (.pointer none),1,8):=by kernel_rfl
theorem bm5 (W:World)(o:Obj)(v:Value)(t:TypeId):∀j u,[v][j]?=some u->((W.alloc o).alloc (.cells #[v] t)).cell? ((⟨W.heap.size+1,0,none⟩:Addr).add j)=some u:=
 xf (W.alloc o) [v] t (W.heap.size+1) (by simp)
structure ap2 (w:World)(wb:Nat)(U U':co)(D:cy)(w':World):Prop where
 at_:fi w' wb U' D
 r0:U'.rl 0=U.rl 0++[.pointer (some ⟨D.sb,0,none⟩)]
 len:∀j,j<6->(U'.rl j).length<=(U.rl j).length+1
 fr:Fr w w' (U.fp wb)
 fpU:∀k,U'.fp wb k->U.fp wb k\/w.heap.size<=k
 cbU:∀k,U'.cb k->U.cb k
 lo:∀k,D.fp k->w.heap.size<=k
theorem ak_ {wb k:Nat}(h:j1.fp wb k):k=wb:=by
 rcases h with h | ⟨j,_,h⟩
 ·exact h
 ·simp [j1,Value.ownBlock] at h
theorem bq3 {k:Nat}(h:j1.cb k):False:=by
 obtain ⟨j,v,_,_,h,_⟩:=h;simp [j1] at h
theorem z_ (w:World):np w j1:=
 ⟨fun i v hv=>by simp [j1] at hv,fun i v hv=>by simp [j1] at hv,fun i v hv=>by simp [j1] at hv,rfl,fun i v x hv=>by simp [j1] at hv⟩
theorem bb5 {w W1 W2 Y:World}{wb kb ky g cap:Nat}{U:co}{V:ah}{VR:ax}(h:io w wb U)(hgd:np w U)(hm1:(U.rl 1).length % 4=0)(hm2:(U.rl 2).length % 4=0)(hw2:2<=w.heap.size)(k1:aq W1 kb V)(k2:V.ker=kj)(k3:V.dv=.slice none 0 0)(k4':∀k,V.fp kb k->w.heap.size<=k)(k5:Fr w W1 (fun _=>False))
 (r1:RD W2 ky ⟨aq_,[],fun _=>0,[]⟩ VR) (r4:Fr W1 W2 (fun _=>False)) (r5:∀k,VR.fq ky k->W1.heap.size<=k)
 (q3:io Y wb (U.add 0 (.slice (some ⟨g,0,none⟩) ((U.rl 0).length+1) cap) (.pointer (some ⟨W2.heap.size,0,none⟩))))
 (q4:Fr (W2.alloc (.cells #[.pointer (some ⟨kb,0,none⟩),.pointer (some ⟨ky,0,none⟩)] 53)) Y (U.fp wb))
 (q5:∀k,(U.add 0 (.slice (some ⟨g,0,none⟩) ((U.rl 0).length+1) cap) (.pointer (some ⟨W2.heap.size,0,none⟩))).fp wb k->U.fp wb k\/(W2.alloc (.cells #[.pointer (some ⟨kb,0,none⟩),.pointer (some ⟨ky,0,none⟩)] 53)).heap.size<=k)
 (q6:∀k,(U.add 0 (.slice (some ⟨g,0,none⟩) ((U.rl 0).length+1) cap) (.pointer (some ⟨W2.heap.size,0,none⟩))).cb k->U.cb k\/1<=0/\(Value.pointer (some ⟨W2.heap.size,0,none⟩)).ownBlock=some k) :
 ap2 w wb U (U.add 0 (.slice (some ⟨g,0,none⟩) ((U.rl 0).length+1) cap) (.pointer (some ⟨W2.heap.size,0,none⟩))) ⟨W2.heap.size,kb,ky,V,aq_,[],fun _=>0,[],VR⟩ Y:=by
 have s1:=k5.size;have s2:=r4.size;have fa:Fr W2 Y (U.fp wb):=((Fr.refl W2 (U.fp wb)).alloc _).step q4 (fun k hk=>.inl hk);have f1:Fr W1 Y (U.fp wb):=(r4.mono (fun _=>False.elim)).step fa (fun k hk=>.inl hk);have f0:Fr w Y (U.fp wb):=(k5.mono (fun _=>False.elim)).step f1 (fun k hk=>.inl hk);have hkd:KD W1 kb ⟨V.ker,[]⟩ V:=⟨k1,rfl,by rw [k3];exact World.ownsRow_nil _ _ _ _,fun k hk=>by rw [k3] at hk;cases hk⟩
 have k4:∀k,V.fd kb k->w.heap.size<=k:=fun k hk=>hk.elim (k4' k) (fun e=>by rw [k3] at e;cases e)
 have kl:∀k,V.fd kb k->k<W1.heap.size:=fun k hk=>hkd.fdLt hk
 have rl:∀k,VR.fq ky k->k<W2.heap.size:=fun k hk=>r1.fqLt hk
 have ul:∀k,U.fp wb k->k<w.heap.size:=fun k hk=>h.lt hk
 have hU:∀k,(U.add 0 (.slice (some ⟨g,0,none⟩) ((U.rl 0).length+1) cap) (.pointer (some ⟨W2.heap.size,0,none⟩))).fp wb k->U.fp wb k\/W2.heap.size<k:=fun k hk=>by
  rcases q5 k hk with e | e
  ·exact .inl e
  ·rw [World.size_alloc] at e;exact .inr e
 have hC:∀k,(U.add 0 (.slice (some ⟨g,0,none⟩) ((U.rl 0).length+1) cap) (.pointer (some ⟨W2.heap.size,0,none⟩))).cb k->U.cb k:=fun k hk=>by
  rcases q6 k hk with e | e
  ·exact e
  ·exact absurd e.1 (by decide)
 have hD:∀k,cy.fp ⟨W2.heap.size,kb,ky,V,aq_,[],fun _=>0,[],VR⟩ k->w.heap.size<=k/\k<=W2.heap.size:=by
  rintro k (e | e | e)
  ·have e:k=W2.heap.size:=e;omega
  ·have:=k4 k e;have:=kl k e;omega
  ·have:=r5 k e;have:=rl k e;omega
 have hG:=hgd.frame f0 (fun k hk e=>h.cont k hk e);refine ⟨⟨q3,⟨hG.e,hG.d,hG.i,hG.bx,hG.b⟩,⟨?_,?_,?_,?_,fun k hk=>by have:=k4 k hk;omega,fun _=>⟨Int.le_refl 0,(by decide:(0:Int)<=4294967295)⟩,?_,?_,?_⟩,?_,hm1,hm2⟩,rfl,?_,f0,?_,hC,fun k hk=>(hD k hk).1⟩
 ·exact q4.same (heap_alloc_new _ _) (fun e=>by have:=ul _ e;simp only at this;omega)
 ·exact hkd.frame f1 (fun k hk e=>by have:=k4 k hk;have:=ul k e;omega)
 ·exact r1.frame fa (fun k hk e=>by have:=r5 k hk;have:=ul k e;omega)
 ·show Ag ⟨aq_,[],fun _=>0,[]⟩ ⟨V.ker,[]⟩
  rw [k2];exact ⟨ay7,rfl,fun _ _=>rfl,bg3 (fun _=>rfl)⟩
 ·intro e;have:=kl _ e;simp only at this;omega
 ·intro e;have:=rl _ e;simp only at this;omega
 ·intro k e1 e2;have:=kl k e1;have:=r5 k e2;omega
 ·intro k hk;have h1:=hD k hk;refine ⟨fun e=>?_,fun e=>?_⟩
  ·rcases hU k e with e | e
   ·have:=ul k e;omega
   ·omega
  ·have:=h.clt k (hC k e);omega
 ·intro j hj;simp only [co.add];split
  ·rename_i e;subst e;simp
  ·omega
 ·intro k hk;rcases hU k hk with e | e
  ·exact .inl e
  ·exact .inr (by omega)
theorem rm (wb:Nat)(U:co)(w:World)(h:io w wb U)(hgd:np w U)(hm1:(U.rl 1).length % 4=0)(hm2:(U.rl 2).length % 4=0)(hl0:(U.rl 0).length<=1)(hgl:ev w):
 Calls Tryz.prog 8 #[.pointer (some ⟨wb,0,none⟩)] w fun e w'=>e=.returned (.bool true)/\∃U' D,ap2 w wb U U' D w':=by
 obtain ⟨i0,hi0,hz0,hz1,hz2⟩:=info_parts bp9;go_enter Tryz.func8,Tryz.ntmps8
 go_upto_region 4 with (go_at_call 10;refine (a15 _ hgl.n0 hgl.n1).mono ?_;rintro e W1 ⟨kb,V,rfl,k1,k2,k3,k4,k5⟩)
 have h1:=h.frame k5 (fun _ _=>id);have c1:W1.cell? ⟨wb,0,none⟩=some (U.rv 0):=aa (o:=0) h1.blk rfl;go_region_law
  (first
  |(go_simp;go_at_call 14;refine (bu3 _).mono ?_;rintro e W2 ⟨ky,VR,rfl,r1,r4,r5⟩
    have hF2:Fr W1 W2 (fun _=>False):=r4.drewl;have h2:=h1.frame hF2 (fun _ _=>id);have c2:W2.cell? ⟨wb,0,none⟩=some (U.rv 0):=aa (o:=0) h2.blk rfl;have o2:W2.ownsRow 0 49 1 (U.rv 0) (U.rl 0).length (U.rl 0):=h2.row 0 (by omega);have c3:=((Fr.refl W2 (fun _=>False)).alloc (.cells #[.pointer (some ⟨kb,0,none⟩),.pointer (some ⟨ky,0,none⟩)] 53)).cell c2 id;have c4:=(((Fr.refl W2 (fun _=>False)).alloc (.cells #[.pointer (some ⟨kb,0,none⟩),.pointer (some ⟨ky,0,none⟩)] 53)).alloc (.cells #[.pointer (some ⟨W2.heap.size,0,none⟩)] 49)).cell c2 id)
  |((refine step_append_lies _ rfl _ _ 24 rfl 0 49 i0 _ 1 8 Tryz.underlying24 hi0 hz0 hz1 hz2 rfl (by decide) (U.rv 0) _ _ rfl (World.ownsRow.alloc (World.ownsRow.alloc o2 _) _) ⟨_,0,none⟩ 1 1 [.pointer (some ⟨_,0,none⟩)] rfl rfl (bm5 _ _ _ _) (by simp [Value.oneCell']) (by decide) (by unfold maxLen;omega) (by omega) (Nat.zero_le _) _ rfl ?_);intro g cap Y hown hg hat hlt
    obtain ⟨q1,q2,q3,q4,q5,q6⟩:=io.add (h2.frame ((Fr.refl W2 (fun _=>False)).alloc (.cells #[.pointer (some ⟨kb,0,none⟩),.pointer (some ⟨ky,0,none⟩)] 53)) (fun _ _=>id)) (j:=0) (by decide) (v:=.pointer (some ⟨W2.heap.size,0,none⟩)) hg hown (hat.imp id (fun e=>by simpa using e)) (fun h=>absurd h (by decide))
    have q0:Y.cell? ⟨wb,0,none⟩=some (U.rv 0):=q1))
 all_goals go_wp2
 all_goals go_ret
 all_goals exact ⟨rfl,_,_,bb5 h hgd hm1 hm2 hgl.lt k1 k2 k3 k4 k5 r1 hF2 r5 q3 q4 q5 q6⟩
end Go.Proofs.YtdpjgflemddekaaGreatDoor
