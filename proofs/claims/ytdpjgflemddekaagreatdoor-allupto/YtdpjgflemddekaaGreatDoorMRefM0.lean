/- The document's answer: the zero kernel. -/
import Derived.Test.YtdpjgflemddekaaGreatDoorMTRh
import Derived.Test.YtdpjgflemddekaaGreatDoorMBaseRet
import Derived.Deep.CutBlock
set_option maxRecDepth 100000
set_option maxHeartbeats 1000000
namespace Go.Proofs.YtdpjgflemddekaaGreatDoor
open Go.RowKit
def nilV:Value:=.slice none 0 0
def V0:RefV:=⟨nilV,nilV,nilV,nilV,nilV,nilV,.bool false,fun _=>0⟩
def boot0:Array Value:=#[nilV]++Array.replicate 1024 (.int .i64 0)++#[nilV,nilV,nilV,nilV,nilV,.bool false]
theorem zero_is:Tryz.zeroCells106=boot0:=by kernel_rfl
theorem boot0_cells:RefCells V0 boot0:=by
 refine ⟨by simp [boot0],by simp [boot0,V0],?_,by simp [boot0,V0],by simp [boot0,V0],by simp [boot0,V0],by simp [boot0,V0],by simp [boot0,V0],by simp [boot0,V0]⟩;intro i hi;unfold boot0;rw [Array.getElem?_append_left (by simp;omega),Array.getElem?_append_right (by simp)];simp [V0,hi]
def bootR:Ref:=⟨[⟨0,0,1,0,10,7,0,80,0⟩,⟨0,1,2,0,6,7,0,0,1⟩,⟨0,2,4,64,4,7,0,0,1⟩],[⟨0,6⟩],[⟨64,1,0,0,0,0⟩]⟩
theorem boot_h1 {w W1:World}(hb1:W1.heap[w.heap.size]?=some (.cells boot0 106 (0,0))):RefAt W1 w.heap.size ⟨[],[],[]⟩ V0:=
 ⟨⟨_,hb1,boot0_cells⟩,World.ownsRow_nil _ _ _ _,World.ownsRow_nil _ _ _ _,World.ownsRow_nil _ _ _ _,by simp [V0,nilV,Value.ownBlock],by simp [V0,nilV,Value.ownBlock],by simp [V0,nilV,Value.ownBlock],by simp [V0,nilV,Value.ownBlock],by simp [V0,nilV,Value.ownBlock],by simp [V0,nilV,Value.ownBlock]⟩
theorem bootL {w W Y:World}{R:Ref}{V:RefV}{o:Obj}{x:Ent}{g cap:Nat}(h:RefAt W w.heap.size R V)(hf:Fr w W (fun _=>False))(hp:∀k,V.fp w.heap.size k->w.heap.size<=k)(hg:(W.alloc o).grownBy Y V.lv.ownBlock)
 (hown:Y.ownsRow 0 108 9 (.slice (some ⟨g,0,none⟩) (R.L.length+1) cap) (R.L.length+1) (rowE R.L++x.vals)) (hat:V.lv.ownBlock=some g\/g=W.heap.size+1) :
 Y.cell? ⟨w.heap.size,0,none⟩=some V.lv/\Y.frozen? ⟨w.heap.size,0,none⟩=false/\RefAt (Y.setCell ⟨w.heap.size,0,none⟩ (.slice (some ⟨g,0,none⟩) (R.L.length+1) cap)) w.heap.size {R with L:=R.L++[x]} {V with lv:=.slice (some ⟨g,0,none⟩) (R.L.length+1) cap}/\
 Fr w (Y.setCell ⟨w.heap.size,0,none⟩ (.slice (some ⟨g,0,none⟩) (R.L.length+1) cap)) (fun _=>False)/\(∀k,({V with lv:=.slice (some ⟨g,0,none⟩) (R.L.length+1) cap}:RefV).fp w.heap.size k->w.heap.size<=k):=by
 have hf7:Fr W Y (fun r=>V.lv.ownBlock=some r):=((Fr.refl W (fun r=>V.lv.ownBlock=some r)).alloc _).grown hg (fun r hr=>.inl hr);have hk:w.heap.size<W.heap.size:=World.block_lt_of_cell? W _ h.cl;refine ⟨hf7.cell h.cl h.kl,(World.frozen?_of_block (hf7.block _ hk h.kl)).trans (h.fz _),h.pushL (x:=x) hg rfl hown hat,?_,?_⟩
 ·exact ((hf.alloc _).grown hg (fun r hr=>.inr (hp r (.inr (.inl hr))))).setCell (.inr (Nat.le_refl _)) _ _
 ·rintro k (h9 | h9 | h9 | h9)
  ·exact hp k (.inl h9)
  ·cases h9
   rcases hat with h10 | h10
   ·exact hp _ (.inr (.inl h10))
   ·show w.heap.size<=g;omega
  ·exact hp k (.inr (.inr (.inl h9)))
  ·exact hp k (.inr (.inr (.inr h9)))
theorem bootN {w W Y:World}{R:Ref}{V:RefV}{o:Obj}{x:Liv}{g cap:Nat}(h:RefAt W w.heap.size R V)(hf:Fr w W (fun _=>False))(hp:∀k,V.fp w.heap.size k->w.heap.size<=k)(hg:(W.alloc o).grownBy Y V.nv.ownBlock)
 (hown:Y.ownsRow 0 110 2 (.slice (some ⟨g,0,none⟩) (R.N.length+1) cap) (R.N.length+1) (rowN R.N++x.vals)) (hat:V.nv.ownBlock=some g\/g=W.heap.size+1) :
 Y.cell? ⟨w.heap.size,1025,none⟩=some V.nv/\Y.frozen? ⟨w.heap.size,1025,none⟩=false/\RefAt (Y.setCell ⟨w.heap.size,1025,none⟩ (.slice (some ⟨g,0,none⟩) (R.N.length+1) cap)) w.heap.size {R with N:=R.N++[x]} {V with nv:=.slice (some ⟨g,0,none⟩) (R.N.length+1) cap}/\
 Fr w (Y.setCell ⟨w.heap.size,1025,none⟩ (.slice (some ⟨g,0,none⟩) (R.N.length+1) cap)) (fun _=>False)/\(∀k,({V with nv:=.slice (some ⟨g,0,none⟩) (R.N.length+1) cap}:RefV).fp w.heap.size k->w.heap.size<=k):=by
 have hf7:Fr W Y (fun r=>V.nv.ownBlock=some r):=((Fr.refl W (fun r=>V.nv.ownBlock=some r)).alloc _).grown hg (fun r hr=>.inl hr);have hk:w.heap.size<W.heap.size:=World.block_lt_of_cell? W _ h.cl;refine ⟨hf7.cell h.cn h.kn,(World.frozen?_of_block (hf7.block _ hk h.kn)).trans (h.fz _),h.pushN (x:=x) hg rfl hown hat,?_,?_⟩
 ·exact ((hf.alloc _).grown hg (fun r hr=>.inr (hp r (.inr (.inr (.inl hr)))))).setCell (.inr (Nat.le_refl _)) _ _
 ·rintro k (h9 | h9 | h9 | h9)
  ·exact hp k (.inl h9)
  ·exact hp k (.inr (.inl h9))
  ·cases h9
   rcases hat with h10 | h10
   ·exact hp _ (.inr (.inr (.inl h10)))
   ·show w.heap.size<=g;omega
  ·exact hp k (.inr (.inr (.inr h9)))
theorem bootT {w W Y:World}{R:Ref}{V:RefV}{o:Obj}{x:Thr}{g cap:Nat}(h:RefAt W w.heap.size R V)(hf:Fr w W (fun _=>False))(hp:∀k,V.fp w.heap.size k->w.heap.size<=k)(hg:(W.alloc o).grownBy Y V.tv.ownBlock)
 (hown:Y.ownsRow 0 112 6 (.slice (some ⟨g,0,none⟩) (R.T.length+1) cap) (R.T.length+1) (rowT R.T++x.vals)) (hat:V.tv.ownBlock=some g\/g=W.heap.size+1) :
 Y.cell? ⟨w.heap.size,1026,none⟩=some V.tv/\Y.frozen? ⟨w.heap.size,1026,none⟩=false/\RefAt (Y.setCell ⟨w.heap.size,1026,none⟩ (.slice (some ⟨g,0,none⟩) (R.T.length+1) cap)) w.heap.size {R with T:=R.T++[x]} {V with tv:=.slice (some ⟨g,0,none⟩) (R.T.length+1) cap}/\
 Fr w (Y.setCell ⟨w.heap.size,1026,none⟩ (.slice (some ⟨g,0,none⟩) (R.T.length+1) cap)) (fun _=>False)/\(∀k,({V with tv:=.slice (some ⟨g,0,none⟩) (R.T.length+1) cap}:RefV).fp w.heap.size k->w.heap.size<=k):=by
 have hf7:Fr W Y (fun r=>V.tv.ownBlock=some r):=((Fr.refl W (fun r=>V.tv.ownBlock=some r)).alloc _).grown hg (fun r hr=>.inl hr);have hk:w.heap.size<W.heap.size:=World.block_lt_of_cell? W _ h.cl;refine ⟨hf7.cell h.ct h.kt,(World.frozen?_of_block (hf7.block _ hk h.kt)).trans (h.fz _),h.pushT (x:=x) hg rfl hown hat,?_,?_⟩
 ·exact ((hf.alloc _).grown hg (fun r hr=>.inr (hp r (.inr (.inr (.inr hr)))))).setCell (.inr (Nat.le_refl _)) _ _
 ·rintro k (h9 | h9 | h9 | h9)
  ·exact hp k (.inl h9)
  ·exact hp k (.inr (.inl h9))
  ·exact hp k (.inr (.inr (.inl h9)))
  ·cases h9
   rcases hat with h10 | h10
   ·exact hp _ (.inr (.inr (.inr h10)))
   ·show w.heap.size<=g;omega
theorem rboot_any (w:World):
 Calls Tryz.prog 14 #[] w fun e' w'=>e'=.returned (.pointer (some ⟨w.heap.size,0,none⟩))/\
  ∃V,RefAt w' w.heap.size bootR V/\V.qv=nilV/\V.dv=nilV/\(∀i,V.ws i=0)/\Fr w w' (fun _=>False)/\(∀k,V.fp w.heap.size k->w.heap.size<=k):=by
 obtain ⟨iL,hiL,hL0,hL2,hL3⟩:=info_parts infoEnt;obtain ⟨iN,hiN,hN0,hN2,hN3⟩:=info_parts infoLiv;obtain ⟨iT,hiT,hT0,hT2,hT3⟩:=info_parts infoThr;go_enter Tryz.func14,Tryz.ntmps14
 go_upto_region 2 with fail
 rw [zero_is];have hb1:=heap_alloc_new w (.cells boot0 106);have hf0:Fr w (w.alloc (.cells boot0 106)) (fun _=>False):=(Fr.refl _ _).alloc _;generalize w.alloc (.cells boot0 106)=W0 at *
 have h0:=boot_h1 hb1;have hp0:∀k,V0.fp w.heap.size k->w.heap.size<=k:=by rintro k (h9 | h9 | h9 | h9);exact Nat.le_of_eq h9.symm;cases h9;cases h9;cases h9
 clear hb1;have c0:W0.cell? ⟨w.heap.size,0,none⟩=some (.slice none 0 0):=h0.cl;have o0:W0.ownsRow 0 108 9 (.slice none 0 0) 0 _:=h0.l;have s0:w.heap.size<W0.heap.size:=World.block_lt_of_cell? _ _ c0;go_wp2_with (at_builtin;go_must (refine wpList_append_lies _ rfl _ _ 100 rfl 0 108 iL _ 9 72 Tryz.underlying100 hiL hL0 hL2 hL3 rfl (by decide) _ _ _ rfl (World.ownsRow.alloc o0 _) ⟨_,0,none⟩ 1 1 [.int .i64 0,.int .i64 0,.int .i64 1,.int .i64 0,.int .i64 10,.int .i64 7,.int .i64 0,.int .i64 80,.int .i64 0] rfl rfl (cg _ _ _) (Ent.one ⟨0,0,1,0,10,7,0,80,0⟩) (by decide) (by unfold maxLen;omega) (by omega) (Nat.zero_le _) (W0.heap.size+1) (by simp) ?_))
 intro g1 cap1 Y1 hown1 hg1 hat1 hlt1;obtain ⟨d1,z1,h1,hf1,hp1⟩:=bootL (x:=⟨0,0,1,0,10,7,0,80,0⟩) h0 hf0 hp0 hg1 hown1 hat1;have h1':RefAt (Y1.setCell ⟨w.heap.size,0,none⟩ (.slice (some ⟨g1,0,none⟩) 1 cap1)) w.heap.size (⟨[⟨0,0,1,0,10,7,0,80,0⟩],[],[]⟩:Ref) {V0 with lv:=.slice (some ⟨g1,0,none⟩) 1 cap1}:=h1;have hf1':Fr w (Y1.setCell ⟨w.heap.size,0,none⟩ (.slice (some ⟨g1,0,none⟩) 1 cap1)) (fun _=>False):=hf1;have hp1':∀k,({V0 with lv:=.slice (some ⟨g1,0,none⟩) 1 cap1}:RefV).fp w.heap.size k->w.heap.size<=k:=hp1;clear hown1 hg1 hat1 hlt1 c0 o0 h0 hf0 hp0 s0 h1 hf1 hp1;have d1':Y1.cell? ⟨w.heap.size,0,none⟩=some (.slice none 0 0):=d1;clear d1;go_upto_region 3 with fail
 generalize hgen:Y1.setCell ⟨w.heap.size,0,none⟩ (.slice (some ⟨g1,0,none⟩) 1 cap1)=W1 at *
 clear hgen d1' z1;have c1:W1.cell? ⟨w.heap.size,0,none⟩=some (.slice (some ⟨g1,0,none⟩) 1 cap1):=h1'.cl;have o1:W1.ownsRow 0 108 9 (.slice (some ⟨g1,0,none⟩) 1 cap1) 1 _:=h1'.l;have s1:w.heap.size<W1.heap.size:=World.block_lt_of_cell? _ _ c1;go_wp2_with (at_builtin;go_must (refine wpList_append_lies _ rfl _ _ 100 rfl 0 108 iL _ 9 72 Tryz.underlying100 hiL hL0 hL2 hL3 rfl (by decide) _ _ _ rfl (World.ownsRow.alloc o1 _) ⟨_,0,none⟩ 1 1 [.int .i64 0,.int .i64 1,.int .i64 2,.int .i64 0,.int .i64 6,.int .i64 7,.int .i64 0,.int .i64 0,.int .i64 1] rfl rfl (cg _ _ _) (Ent.one ⟨0,1,2,0,6,7,0,0,1⟩) (by decide) (by unfold maxLen;omega) (by omega) (Nat.zero_le _) (W1.heap.size+1) (by simp) ?_))
 intro g2 cap2 Y2 hown2 hg2 hat2 hlt2;obtain ⟨d2,z2,h2,hf2,hp2⟩:=bootL (x:=⟨0,1,2,0,6,7,0,0,1⟩) h1' hf1' hp1' hg2 hown2 hat2;have h2':RefAt (Y2.setCell ⟨w.heap.size,0,none⟩ (.slice (some ⟨g2,0,none⟩) 2 cap2)) w.heap.size (⟨[⟨0,0,1,0,10,7,0,80,0⟩,⟨0,1,2,0,6,7,0,0,1⟩],[],[]⟩:Ref) {V0 with lv:=.slice (some ⟨g2,0,none⟩) 2 cap2}:=h2;have hf2':Fr w (Y2.setCell ⟨w.heap.size,0,none⟩ (.slice (some ⟨g2,0,none⟩) 2 cap2)) (fun _=>False):=hf2;have hp2':∀k,({V0 with lv:=.slice (some ⟨g2,0,none⟩) 2 cap2}:RefV).fp w.heap.size k->w.heap.size<=k:=hp2;clear hown2 hg2 hat2 hlt2 c1 o1 h1' hf1' hp1' s1 h2 hf2 hp2;have d2':Y2.cell? ⟨w.heap.size,0,none⟩=some (.slice (some ⟨g1,0,none⟩) 1 cap1):=d2;clear d2;go_upto_region 4 with fail
 generalize hgen:Y2.setCell ⟨w.heap.size,0,none⟩ (.slice (some ⟨g2,0,none⟩) 2 cap2)=W2 at *
 clear hgen d2' z2;have c2:W2.cell? ⟨w.heap.size,0,none⟩=some (.slice (some ⟨g2,0,none⟩) 2 cap2):=h2'.cl;have o2:W2.ownsRow 0 108 9 (.slice (some ⟨g2,0,none⟩) 2 cap2) 2 _:=h2'.l;have s2:w.heap.size<W2.heap.size:=World.block_lt_of_cell? _ _ c2;go_wp2_with (at_builtin;go_must (refine wpList_append_lies _ rfl _ _ 100 rfl 0 108 iL _ 9 72 Tryz.underlying100 hiL hL0 hL2 hL3 rfl (by decide) _ _ _ rfl (World.ownsRow.alloc o2 _) ⟨_,0,none⟩ 1 1 [.int .i64 0,.int .i64 2,.int .i64 4,.int .i64 64,.int .i64 4,.int .i64 7,.int .i64 0,.int .i64 0,.int .i64 1] rfl rfl (cg _ _ _) (Ent.one ⟨0,2,4,64,4,7,0,0,1⟩) (by decide) (by unfold maxLen;omega) (by omega) (Nat.zero_le _) (W2.heap.size+1) (by simp) ?_))
 intro g3 cap3 Y3 hown3 hg3 hat3 hlt3;obtain ⟨d3,z3,h3,hf3,hp3⟩:=bootL (x:=⟨0,2,4,64,4,7,0,0,1⟩) h2' hf2' hp2' hg3 hown3 hat3;have h3':RefAt (Y3.setCell ⟨w.heap.size,0,none⟩ (.slice (some ⟨g3,0,none⟩) 3 cap3)) w.heap.size (⟨[⟨0,0,1,0,10,7,0,80,0⟩,⟨0,1,2,0,6,7,0,0,1⟩,⟨0,2,4,64,4,7,0,0,1⟩],[],[]⟩:Ref) {V0 with lv:=.slice (some ⟨g3,0,none⟩) 3 cap3}:=h3;have hf3':Fr w (Y3.setCell ⟨w.heap.size,0,none⟩ (.slice (some ⟨g3,0,none⟩) 3 cap3)) (fun _=>False):=hf3;have hp3':∀k,({V0 with lv:=.slice (some ⟨g3,0,none⟩) 3 cap3}:RefV).fp w.heap.size k->w.heap.size<=k:=hp3;clear hown3 hg3 hat3 hlt3 c2 o2 h2' hf2' hp2' s2 h3 hf3 hp3;have d3':Y3.cell? ⟨w.heap.size,0,none⟩=some (.slice (some ⟨g2,0,none⟩) 2 cap2):=d3;clear d3;go_upto_region 5 with fail
 generalize hgen:Y3.setCell ⟨w.heap.size,0,none⟩ (.slice (some ⟨g3,0,none⟩) 3 cap3)=W3 at *
 clear hgen d3' z3;have c3:W3.cell? ⟨w.heap.size,1025,none⟩=some (.slice none 0 0):=h3'.cn;have o3:W3.ownsRow 0 110 2 (.slice none 0 0) 0 _:=h3'.n;have s3:w.heap.size<W3.heap.size:=World.block_lt_of_cell? _ _ c3;go_wp2_with (at_builtin;go_must (refine wpList_append_lies _ rfl _ _ 102 rfl 0 110 iN _ 2 16 Tryz.underlying102 hiN hN0 hN2 hN3 rfl (by decide) _ _ _ rfl (World.ownsRow.alloc o3 _) ⟨_,0,none⟩ 1 1 [.int .i64 0,.int .i64 6] rfl rfl (cg _ _ _) (Liv.one ⟨0,6⟩) (by decide) (by unfold maxLen;omega) (by omega) (Nat.zero_le _) (W3.heap.size+1) (by simp) ?_))
 intro g4 cap4 Y4 hown4 hg4 hat4 hlt4;obtain ⟨d4,z4,h4,hf4,hp4⟩:=bootN (x:=⟨0,6⟩) h3' hf3' hp3' hg4 hown4 hat4;have h4':RefAt (Y4.setCell ⟨w.heap.size,1025,none⟩ (.slice (some ⟨g4,0,none⟩) 1 cap4)) w.heap.size (⟨[⟨0,0,1,0,10,7,0,80,0⟩,⟨0,1,2,0,6,7,0,0,1⟩,⟨0,2,4,64,4,7,0,0,1⟩],[⟨0,6⟩],[]⟩:Ref) {V0 with lv:=.slice (some ⟨g3,0,none⟩) 3 cap3,nv:=.slice (some ⟨g4,0,none⟩) 1 cap4}:=h4;have hf4':Fr w (Y4.setCell ⟨w.heap.size,1025,none⟩ (.slice (some ⟨g4,0,none⟩) 1 cap4)) (fun _=>False):=hf4;have hp4':∀k,({V0 with lv:=.slice (some ⟨g3,0,none⟩) 3 cap3,nv:=.slice (some ⟨g4,0,none⟩) 1 cap4}:RefV).fp w.heap.size k->w.heap.size<=k:=hp4;clear hown4 hg4 hat4 hlt4 c3 o3 h3' hf3' hp3' s3 h4 hf4 hp4;have d4':Y4.cell? ⟨w.heap.size,1025,none⟩=some (.slice none 0 0):=d4;clear d4;go_upto_region 6 with fail
 generalize hgen:Y4.setCell ⟨w.heap.size,1025,none⟩ (.slice (some ⟨g4,0,none⟩) 1 cap4)=W4 at *
 clear hgen d4' z4;have c4:W4.cell? ⟨w.heap.size,1026,none⟩=some (.slice none 0 0):=h4'.ct;have o4:W4.ownsRow 0 112 6 (.slice none 0 0) 0 _:=h4'.t;have s4:w.heap.size<W4.heap.size:=World.block_lt_of_cell? _ _ c4;go_wp2_with (at_builtin;go_must (refine wpList_append_lies _ rfl _ _ 103 rfl 0 112 iT _ 6 48 Tryz.underlying103 hiT hT0 hT2 hT3 rfl (by decide) _ _ _ rfl (World.ownsRow.alloc o4 _) ⟨_,0,none⟩ 1 1 [.int .i64 64,.int .i64 1,.int .i64 0,.int .i64 0,.int .i64 0,.int .i64 0] rfl rfl (cg _ _ _) (Thr.one ⟨64,1,0,0,0,0⟩) (by decide) (by unfold maxLen;omega) (by omega) (Nat.zero_le _) (W4.heap.size+1) (by simp) ?_))
 intro g5 cap5 Y5 hown5 hg5 hat5 hlt5;obtain ⟨d5,z5,h5,hf5,hp5⟩:=bootT (x:=⟨64,1,0,0,0,0⟩) h4' hf4' hp4' hg5 hown5 hat5;have h5':RefAt (Y5.setCell ⟨w.heap.size,1026,none⟩ (.slice (some ⟨g5,0,none⟩) 1 cap5)) w.heap.size (⟨[⟨0,0,1,0,10,7,0,80,0⟩,⟨0,1,2,0,6,7,0,0,1⟩,⟨0,2,4,64,4,7,0,0,1⟩],[⟨0,6⟩],[⟨64,1,0,0,0,0⟩]⟩:Ref) {V0 with lv:=.slice (some ⟨g3,0,none⟩) 3 cap3,nv:=.slice (some ⟨g4,0,none⟩) 1 cap4,tv:=.slice (some ⟨g5,0,none⟩) 1 cap5}:=h5;have hf5':Fr w (Y5.setCell ⟨w.heap.size,1026,none⟩ (.slice (some ⟨g5,0,none⟩) 1 cap5)) (fun _=>False):=hf5;have hp5':∀k,({V0 with lv:=.slice (some ⟨g3,0,none⟩) 3 cap3,nv:=.slice (some ⟨g4,0,none⟩) 1 cap4,tv:=.slice (some ⟨g5,0,none⟩) 1 cap5}:RefV).fp w.heap.size k->w.heap.size<=k:=hp5;clear hown5 hg5 hat5 hlt5 c4 o4 h4' hf4' hp4' s4 h5 hf5 hp5;have d5':Y5.cell? ⟨w.heap.size,1026,none⟩=some (.slice none 0 0):=d5;clear d5;go_wp2;go_ret;exact ⟨rfl,_,h5',rfl,rfl,fun _=>rfl,hf5',hp5'⟩
end Go.Proofs.YtdpjgflemddekaaGreatDoor
