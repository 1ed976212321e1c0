/- For every script of bulk at most 1048576, with the package's variables as the program's text lays them: the law All returns true and leaves its argument as it was (all_card : Rows.AllUptoCardSaid). -/
import Derived.Test.YtdpjgflemddekaaGreatDoorMLawL
import Derived.Test.YtdpjgflemddekaaGreatDoorCards
import Derived.Test.YtdpjgflemddekaaGreatDoorTie
import Derived.Below
set_option maxRecDepth 100000
set_option maxHeartbeats 4000000
namespace Go.Proofs.YtdpjgflemddekaaGreatDoor
open Go.RowKit
def t_:Value:=.slice none 0 0
def V0:ax:=⟨t_,t_,t_,t_,t_,t_,.bool false,fun _=>0⟩
def rk:Array Value:=#[t_]++Array.replicate 1024 (.int .i64 0)++#[t_,t_,t_,t_,t_,.bool false]
theorem bz4:Tryz.zeroCells106=rk:=by kernel_rfl
theorem a52:a58 V0 rk:=by
 refine ⟨by simp [rk],by simp [rk,V0],?_,by simp [rk,V0],by simp [rk,V0],by simp [rk,V0],by simp [rk,V0],by simp [rk,V0],by simp [rk,V0]⟩;intro i hi;unfold rk;rw [Array.getElem?_append_left (by simp;omega),Array.getElem?_append_right (by simp)];simp [V0,hi]
def ao8:dj:=⟨[⟨0,0,1,0,10,7,0,80,0⟩,⟨0,1,2,0,6,7,0,0,1⟩,⟨0,2,4,64,4,7,0,0,1⟩],[⟨0,6⟩],[⟨64,1,0,0,0,0⟩]⟩
theorem by5 {w W1:World}(hb1:W1.heap[w.heap.size]?=some (.cells rk 106 (0,0))):aj W1 w.heap.size ⟨[],[],[]⟩ V0:=
 ⟨⟨_,hb1,a52⟩,World.ownsRow_nil _ _ _ _,World.ownsRow_nil _ _ _ _,World.ownsRow_nil _ _ _ _,by simp [V0,t_,Value.ownBlock],by simp [V0,t_,Value.ownBlock],by simp [V0,t_,Value.ownBlock],by simp [V0,t_,Value.ownBlock],by simp [V0,t_,Value.ownBlock],by simp [V0,t_,Value.ownBlock]⟩
theorem bs5 {w W Y:World}{R:dj}{V:ax}{o:Obj}{x:aw}{g cap:Nat}(h:aj W w.heap.size R V)(hf:Fr w W (fun _=>False))(hp:∀k,V.fp w.heap.size k->w.heap.size<=k)(hg:(W.alloc o).grownBy Y V.lv.ownBlock)
 (hown:Y.ownsRow 0 108 9 (.slice (some ⟨g,0,none⟩) (R.L.length+1) cap) (R.L.length+1) (gj R.L++x.vals)) (hat:V.lv.ownBlock=some g\/g=W.heap.size+1) :
 Y.cell? ⟨w.heap.size,0,none⟩=some V.lv/\Y.frozen? ⟨w.heap.size,0,none⟩=false/\aj (Y.setCell ⟨w.heap.size,0,none⟩ (.slice (some ⟨g,0,none⟩) (R.L.length+1) cap)) w.heap.size {R with L:=R.L++[x]} {V with lv:=.slice (some ⟨g,0,none⟩) (R.L.length+1) cap}/\
 Fr w (Y.setCell ⟨w.heap.size,0,none⟩ (.slice (some ⟨g,0,none⟩) (R.L.length+1) cap)) (fun _=>False)/\(∀k,({V with lv:=.slice (some ⟨g,0,none⟩) (R.L.length+1) cap}:ax).fp w.heap.size k->w.heap.size<=k):=by
 have hf7:Fr W Y (fun r=>V.lv.ownBlock=some r):=((Fr.refl W (fun r=>V.lv.ownBlock=some r)).alloc _).grown hg (fun r hr=>.inl hr);have hk:w.heap.size<W.heap.size:=World.block_lt_of_cell? W _ h.cl;refine ⟨hf7.cell h.cl h.kl,(World.frozen?_of_block (hf7.block _ hk h.kl)).trans (h.fz _),h.pushL (x:=x) hg rfl hown hat,?_,?_⟩
 ·exact ((hf.alloc _).grown hg (fun r hr=>.inr (hp r (.inr (.inl hr))))).setCell (.inr (Nat.le_refl _)) _ _
 ·rintro k (h9 | h9 | h9 | h9)
  ·exact hp k (.inl h9)
  ·cases h9
   rcases hat with h10 | h10
   ·exact hp _ (.inr (.inl h10))
   ·show w.heap.size<=g;omega
  ·exact hp k (.inr (.inr (.inl h9)))
  ·exact hp k (.inr (.inr (.inr h9)))
theorem b50 {w W Y:World}{R:dj}{V:ax}{o:Obj}{x:pp}{g cap:Nat}(h:aj W w.heap.size R V)(hf:Fr w W (fun _=>False))(hp:∀k,V.fp w.heap.size k->w.heap.size<=k)(hg:(W.alloc o).grownBy Y V.nv.ownBlock)
 (hown:Y.ownsRow 0 110 2 (.slice (some ⟨g,0,none⟩) (R.N.length+1) cap) (R.N.length+1) (ao6 R.N++x.vals)) (hat:V.nv.ownBlock=some g\/g=W.heap.size+1) :
 Y.cell? ⟨w.heap.size,1025,none⟩=some V.nv/\Y.frozen? ⟨w.heap.size,1025,none⟩=false/\aj (Y.setCell ⟨w.heap.size,1025,none⟩ (.slice (some ⟨g,0,none⟩) (R.N.length+1) cap)) w.heap.size {R with N:=R.N++[x]} {V with nv:=.slice (some ⟨g,0,none⟩) (R.N.length+1) cap}/\
 Fr w (Y.setCell ⟨w.heap.size,1025,none⟩ (.slice (some ⟨g,0,none⟩) (R.N.length+1) cap)) (fun _=>False)/\(∀k,({V with nv:=.slice (some ⟨g,0,none⟩) (R.N.length+1) cap}:ax).fp w.heap.size k->w.heap.size<=k):=by
 have hf7:Fr W Y (fun r=>V.nv.ownBlock=some r):=((Fr.refl W (fun r=>V.nv.ownBlock=some r)).alloc _).grown hg (fun r hr=>.inl hr);have hk:w.heap.size<W.heap.size:=World.block_lt_of_cell? W _ h.cl;refine ⟨hf7.cell h.cn h.kn,(World.frozen?_of_block (hf7.block _ hk h.kn)).trans (h.fz _),h.pushN (x:=x) hg rfl hown hat,?_,?_⟩
 ·exact ((hf.alloc _).grown hg (fun r hr=>.inr (hp r (.inr (.inr (.inl hr)))))).setCell (.inr (Nat.le_refl _)) _ _
 ·rintro k (h9 | h9 | h9 | h9)
  ·exact hp k (.inl h9)
  ·exact hp k (.inr (.inl h9))
  ·cases h9
   rcases hat with h10 | h10
   ·exact hp _ (.inr (.inr (.inl h10)))
   ·show w.heap.size<=g;omega
  ·exact hp k (.inr (.inr (.inr h9)))
theorem b49 {w W Y:World}{R:dj}{V:ax}{o:Obj}{x:ej}{g cap:Nat}(h:aj W w.heap.size R V)(hf:Fr w W (fun _=>False))(hp:∀k,V.fp w.heap.size k->w.heap.size<=k)(hg:(W.alloc o).grownBy Y V.tv.ownBlock)
 (hown:Y.ownsRow 0 112 6 (.slice (some ⟨g,0,none⟩) (R.T.length+1) cap) (R.T.length+1) (xn R.T++x.vals)) (hat:V.tv.ownBlock=some g\/g=W.heap.size+1) :
 Y.cell? ⟨w.heap.size,1026,none⟩=some V.tv/\Y.frozen? ⟨w.heap.size,1026,none⟩=false/\aj (Y.setCell ⟨w.heap.size,1026,none⟩ (.slice (some ⟨g,0,none⟩) (R.T.length+1) cap)) w.heap.size {R with T:=R.T++[x]} {V with tv:=.slice (some ⟨g,0,none⟩) (R.T.length+1) cap}/\
 Fr w (Y.setCell ⟨w.heap.size,1026,none⟩ (.slice (some ⟨g,0,none⟩) (R.T.length+1) cap)) (fun _=>False)/\(∀k,({V with tv:=.slice (some ⟨g,0,none⟩) (R.T.length+1) cap}:ax).fp w.heap.size k->w.heap.size<=k):=by
 have hf7:Fr W Y (fun r=>V.tv.ownBlock=some r):=((Fr.refl W (fun r=>V.tv.ownBlock=some r)).alloc _).grown hg (fun r hr=>.inl hr);have hk:w.heap.size<W.heap.size:=World.block_lt_of_cell? W _ h.cl;refine ⟨hf7.cell h.ct h.kt,(World.frozen?_of_block (hf7.block _ hk h.kt)).trans (h.fz _),h.pushT (x:=x) hg rfl hown hat,?_,?_⟩
 ·exact ((hf.alloc _).grown hg (fun r hr=>.inr (hp r (.inr (.inr (.inr hr)))))).setCell (.inr (Nat.le_refl _)) _ _
 ·rintro k (h9 | h9 | h9 | h9)
  ·exact hp k (.inl h9)
  ·exact hp k (.inr (.inl h9))
  ·exact hp k (.inr (.inr (.inl h9)))
  ·cases h9
   rcases hat with h10 | h10
   ·exact hp _ (.inr (.inr (.inr h10)))
   ·show w.heap.size<=g;omega
theorem bk5 (w:World):
 Calls Tryz.prog 14 #[] w fun e' w'=>e'=.returned (.pointer (some ⟨w.heap.size,0,none⟩))/\
  ∃V,aj w' w.heap.size ao8 V/\V.qv=t_/\V.dv=t_/\(∀i,V.ws i=0)/\Fr w w' (fun _=>False)/\(∀k,V.fp w.heap.size k->w.heap.size<=k):=by
 obtain ⟨iL,hiL,hL0,hL2,hL3⟩:=info_parts aw5;obtain ⟨iN,hiN,hN0,hN2,hN3⟩:=info_parts bd3;obtain ⟨iT,hiT,hT0,hT2,hT3⟩:=info_parts bf0;go_enter Tryz.func14,Tryz.ntmps14
 go_upto_region 2 with fail
 rw [bz4];have hb1:=heap_alloc_new w (.cells rk 106);have hf0:Fr w (w.alloc (.cells rk 106)) (fun _=>False):=(Fr.refl _ _).alloc _;generalize w.alloc (.cells rk 106)=W0 at *
 have h0:=by5 hb1;have hp0:∀k,V0.fp w.heap.size k->w.heap.size<=k:=by rintro k (h9 | h9 | h9 | h9);exact Nat.le_of_eq h9.symm;cases h9;cases h9;cases h9
 clear hb1;have c0:W0.cell? ⟨w.heap.size,0,none⟩=some (.slice none 0 0):=h0.cl;have o0:W0.ownsRow 0 108 9 (.slice none 0 0) 0 _:=h0.l;have s0:w.heap.size<W0.heap.size:=World.block_lt_of_cell? _ _ c0;go_wp2_with (at_builtin;go_must (refine wpList_append_lies _ rfl _ _ 100 rfl 0 108 iL _ 9 72 Tryz.underlying100 hiL hL0 hL2 hL3 rfl (by decide) _ _ _ rfl (World.ownsRow.alloc o0 _) ⟨_,0,none⟩ 1 1 [.int .i64 0,.int .i64 0,.int .i64 1,.int .i64 0,.int .i64 10,.int .i64 7,.int .i64 0,.int .i64 80,.int .i64 0] rfl rfl (dc _ _ _) (aw.one ⟨0,0,1,0,10,7,0,80,0⟩) (by decide) (by unfold maxLen;omega) (by omega) (Nat.zero_le _) (W0.heap.size+1) (by simp) ?_))
 intro g1 cap1 Y1 hown1 hg1 hat1 hlt1;obtain ⟨d1,z1,h1,hf1,hp1⟩:=bs5 (x:=⟨0,0,1,0,10,7,0,80,0⟩) h0 hf0 hp0 hg1 hown1 hat1;have h1':aj (Y1.setCell ⟨w.heap.size,0,none⟩ (.slice (some ⟨g1,0,none⟩) 1 cap1)) w.heap.size (⟨[⟨0,0,1,0,10,7,0,80,0⟩],[],[]⟩:dj) {V0 with lv:=.slice (some ⟨g1,0,none⟩) 1 cap1}:=h1;have hf1':Fr w (Y1.setCell ⟨w.heap.size,0,none⟩ (.slice (some ⟨g1,0,none⟩) 1 cap1)) (fun _=>False):=hf1;have hp1':∀k,({V0 with lv:=.slice (some ⟨g1,0,none⟩) 1 cap1}:ax).fp w.heap.size k->w.heap.size<=k:=hp1;clear hown1 hg1 hat1 hlt1 c0 o0 h0 hf0 hp0 s0 h1 hf1 hp1;have d1':Y1.cell? ⟨w.heap.size,0,none⟩=some (.slice none 0 0):=d1;clear d1;go_upto_region 3 with fail
 generalize hgen:Y1.setCell ⟨w.heap.size,0,none⟩ (.slice (some ⟨g1,0,none⟩) 1 cap1)=W1 at *
 clear hgen d1' z1;have c1:W1.cell? ⟨w.heap.size,0,none⟩=some (.slice (some ⟨g1,0,none⟩) 1 cap1):=h1'.cl;have o1:W1.ownsRow 0 108 9 (.slice (some ⟨g1,0,none⟩) 1 cap1) 1 _:=h1'.l;have s1:w.heap.size<W1.heap.size:=World.block_lt_of_cell? _ _ c1;go_wp2_with (at_builtin;go_must (refine wpList_append_lies _ rfl _ _ 100 rfl 0 108 iL _ 9 72 Tryz.underlying100 hiL hL0 hL2 hL3 rfl (by decide) _ _ _ rfl (World.ownsRow.alloc o1 _) ⟨_,0,none⟩ 1 1 [.int .i64 0,.int .i64 1,.int .i64 2,.int .i64 0,.int .i64 6,.int .i64 7,.int .i64 0,.int .i64 0,.int .i64 1] rfl rfl (dc _ _ _) (aw.one ⟨0,1,2,0,6,7,0,0,1⟩) (by decide) (by unfold maxLen;omega) (by omega) (Nat.zero_le _) (W1.heap.size+1) (by simp) ?_))
 intro g2 cap2 Y2 hown2 hg2 hat2 hlt2;obtain ⟨d2,z2,h2,hf2,hp2⟩:=bs5 (x:=⟨0,1,2,0,6,7,0,0,1⟩) h1' hf1' hp1' hg2 hown2 hat2;have h2':aj (Y2.setCell ⟨w.heap.size,0,none⟩ (.slice (some ⟨g2,0,none⟩) 2 cap2)) w.heap.size (⟨[⟨0,0,1,0,10,7,0,80,0⟩,⟨0,1,2,0,6,7,0,0,1⟩],[],[]⟩:dj) {V0 with lv:=.slice (some ⟨g2,0,none⟩) 2 cap2}:=h2;have hf2':Fr w (Y2.setCell ⟨w.heap.size,0,none⟩ (.slice (some ⟨g2,0,none⟩) 2 cap2)) (fun _=>False):=hf2;have hp2':∀k,({V0 with lv:=.slice (some ⟨g2,0,none⟩) 2 cap2}:ax).fp w.heap.size k->w.heap.size<=k:=hp2;clear hown2 hg2 hat2 hlt2 c1 o1 h1' hf1' hp1' s1 h2 hf2 hp2;have d2':Y2.cell? ⟨w.heap.size,0,none⟩=some (.slice (some ⟨g1,0,none⟩) 1 cap1):=d2;clear d2;go_upto_region 4 with fail
 generalize hgen:Y2.setCell ⟨w.heap.size,0,none⟩ (.slice (some ⟨g2,0,none⟩) 2 cap2)=W2 at *
 clear hgen d2' z2;have c2:W2.cell? ⟨w.heap.size,0,none⟩=some (.slice (some ⟨g2,0,none⟩) 2 cap2):=h2'.cl;have o2:W2.ownsRow 0 108 9 (.slice (some ⟨g2,0,none⟩) 2 cap2) 2 _:=h2'.l;have s2:w.heap.size<W2.heap.size:=World.block_lt_of_cell? _ _ c2;go_wp2_with (at_builtin;go_must (refine wpList_append_lies _ rfl _ _ 100 rfl 0 108 iL _ 9 72 Tryz.underlying100 hiL hL0 hL2 hL3 rfl (by decide) _ _ _ rfl (World.ownsRow.alloc o2 _) ⟨_,0,none⟩ 1 1 [.int .i64 0,.int .i64 2,.int .i64 4,.int .i64 64,.int .i64 4,.int .i64 7,.int .i64 0,.int .i64 0,.int .i64 1] rfl rfl (dc _ _ _) (aw.one ⟨0,2,4,64,4,7,0,0,1⟩) (by decide) (by unfold maxLen;omega) (by omega) (Nat.zero_le _) (W2.heap.size+1) (by simp) ?_))
 intro g3 cap3 Y3 hown3 hg3 hat3 hlt3;obtain ⟨d3,z3,h3,hf3,hp3⟩:=bs5 (x:=⟨0,2,4,64,4,7,0,0,1⟩) h2' hf2' hp2' hg3 hown3 hat3;have h3':aj (Y3.setCell ⟨w.heap.size,0,none⟩ (.slice (some ⟨g3,0,none⟩) 3 cap3)) w.heap.size (⟨[⟨0,0,1,0,10,7,0,80,0⟩,⟨0,1,2,0,6,7,0,0,1⟩,⟨0,2,4,64,4,7,0,0,1⟩],[],[]⟩:dj) {V0 with lv:=.slice (some ⟨g3,0,none⟩) 3 cap3}:=h3;have hf3':Fr w (Y3.setCell ⟨w.heap.size,0,none⟩ (.slice (some ⟨g3,0,none⟩) 3 cap3)) (fun _=>False):=hf3;have hp3':∀k,({V0 with lv:=.slice (some ⟨g3,0,none⟩) 3 cap3}:ax).fp w.heap.size k->w.heap.size<=k:=hp3;clear hown3 hg3 hat3 hlt3 c2 o2 h2' hf2' hp2' s2 h3 hf3 hp3;have d3':Y3.cell? ⟨w.heap.size,0,none⟩=some (.slice (some ⟨g2,0,none⟩) 2 cap2):=d3;clear d3;go_upto_region 5 with fail
 generalize hgen:Y3.setCell ⟨w.heap.size,0,none⟩ (.slice (some ⟨g3,0,none⟩) 3 cap3)=W3 at *
 clear hgen d3' z3;have c3:W3.cell? ⟨w.heap.size,1025,none⟩=some (.slice none 0 0):=h3'.cn;have o3:W3.ownsRow 0 110 2 (.slice none 0 0) 0 _:=h3'.n;have s3:w.heap.size<W3.heap.size:=World.block_lt_of_cell? _ _ c3;go_wp2_with (at_builtin;go_must (refine wpList_append_lies _ rfl _ _ 102 rfl 0 110 iN _ 2 16 Tryz.underlying102 hiN hN0 hN2 hN3 rfl (by decide) _ _ _ rfl (World.ownsRow.alloc o3 _) ⟨_,0,none⟩ 1 1 [.int .i64 0,.int .i64 6] rfl rfl (dc _ _ _) (pp.one ⟨0,6⟩) (by decide) (by unfold maxLen;omega) (by omega) (Nat.zero_le _) (W3.heap.size+1) (by simp) ?_))
 intro g4 cap4 Y4 hown4 hg4 hat4 hlt4;obtain ⟨d4,z4,h4,hf4,hp4⟩:=b50 (x:=⟨0,6⟩) h3' hf3' hp3' hg4 hown4 hat4;have h4':aj (Y4.setCell ⟨w.heap.size,1025,none⟩ (.slice (some ⟨g4,0,none⟩) 1 cap4)) w.heap.size (⟨[⟨0,0,1,0,10,7,0,80,0⟩,⟨0,1,2,0,6,7,0,0,1⟩,⟨0,2,4,64,4,7,0,0,1⟩],[⟨0,6⟩],[]⟩:dj) {V0 with lv:=.slice (some ⟨g3,0,none⟩) 3 cap3,nv:=.slice (some ⟨g4,0,none⟩) 1 cap4}:=h4;have hf4':Fr w (Y4.setCell ⟨w.heap.size,1025,none⟩ (.slice (some ⟨g4,0,none⟩) 1 cap4)) (fun _=>False):=hf4;have hp4':∀k,({V0 with lv:=.slice (some ⟨g3,0,none⟩) 3 cap3,nv:=.slice (some ⟨g4,0,none⟩) 1 cap4}:ax).fp w.heap.size k->w.heap.size<=k:=hp4;clear hown4 hg4 hat4 hlt4 c3 o3 h3' hf3' hp3' s3 h4 hf4 hp4;have d4':Y4.cell? ⟨w.heap.size,1025,none⟩=some (.slice none 0 0):=d4;clear d4;go_upto_region 6 with fail
 generalize hgen:Y4.setCell ⟨w.heap.size,1025,none⟩ (.slice (some ⟨g4,0,none⟩) 1 cap4)=W4 at *
 clear hgen d4' z4;have c4:W4.cell? ⟨w.heap.size,1026,none⟩=some (.slice none 0 0):=h4'.ct;have o4:W4.ownsRow 0 112 6 (.slice none 0 0) 0 _:=h4'.t;have s4:w.heap.size<W4.heap.size:=World.block_lt_of_cell? _ _ c4;go_wp2_with (at_builtin;go_must (refine wpList_append_lies _ rfl _ _ 103 rfl 0 112 iT _ 6 48 Tryz.underlying103 hiT hT0 hT2 hT3 rfl (by decide) _ _ _ rfl (World.ownsRow.alloc o4 _) ⟨_,0,none⟩ 1 1 [.int .i64 64,.int .i64 1,.int .i64 0,.int .i64 0,.int .i64 0,.int .i64 0] rfl rfl (dc _ _ _) (ej.one ⟨64,1,0,0,0,0⟩) (by decide) (by unfold maxLen;omega) (by omega) (Nat.zero_le _) (W4.heap.size+1) (by simp) ?_))
 intro g5 cap5 Y5 hown5 hg5 hat5 hlt5;obtain ⟨d5,z5,h5,hf5,hp5⟩:=b49 (x:=⟨64,1,0,0,0,0⟩) h4' hf4' hp4' hg5 hown5 hat5;have h5':aj (Y5.setCell ⟨w.heap.size,1026,none⟩ (.slice (some ⟨g5,0,none⟩) 1 cap5)) w.heap.size (⟨[⟨0,0,1,0,10,7,0,80,0⟩,⟨0,1,2,0,6,7,0,0,1⟩,⟨0,2,4,64,4,7,0,0,1⟩],[⟨0,6⟩],[⟨64,1,0,0,0,0⟩]⟩:dj) {V0 with lv:=.slice (some ⟨g3,0,none⟩) 3 cap3,nv:=.slice (some ⟨g4,0,none⟩) 1 cap4,tv:=.slice (some ⟨g5,0,none⟩) 1 cap5}:=h5;have hf5':Fr w (Y5.setCell ⟨w.heap.size,1026,none⟩ (.slice (some ⟨g5,0,none⟩) 1 cap5)) (fun _=>False):=hf5;have hp5':∀k,({V0 with lv:=.slice (some ⟨g3,0,none⟩) 3 cap3,nv:=.slice (some ⟨g4,0,none⟩) 1 cap4,tv:=.slice (some ⟨g5,0,none⟩) 1 cap5}:ax).fp w.heap.size k->w.heap.size<=k:=hp5;clear hown5 hg5 hat5 hlt5 c4 o4 h4' hf4' hp4' s4 h5 hf5 hp5;have d5':Y5.cell? ⟨w.heap.size,1026,none⟩=some (.slice none 0 0):=d5;clear d5;go_wp2;go_ret;exact ⟨rfl,_,h5',rfl,rfl,fun _=>rfl,hf5',hp5'⟩
end Go.Proofs.YtdpjgflemddekaaGreatDoor
namespace Go.Proofs.YtdpjgflemddekaaGreatDoor
open Go.RowKit Go.Shelf
def me:dg:=⟨fun _=>.slice none 0 0,fun _=>[]⟩
theorem bx8 {w:World}{wb:Nat}(h:w.heap[wb]?=some (.cells (lc me) 30 (0,0))):iw w wb me:=
 ⟨h,fun _ _=>World.ownsRow_nil _ _ _ _,fun _ _ e=>by simp [me,Value.ownBlock] at e,fun _ _ _ _ _ k e=>by simp [me,Value.ownBlock] at e,
  fun k ⟨j,v,_,_,h,_⟩=>by simp [me] at h,fun k ⟨j,v,_,_,h,_⟩=>by simp [me] at h⟩
theorem br6 (w:World):
 Calls Tryz.prog 14 #[] w fun e' w'=>∃ky V,e'=.returned (.pointer (some ⟨ky,0,none⟩))/\RD w' ky ⟨ao8,[],fun _=>0,[]⟩ V/\Fr w w' (fun _=>False)/\(∀k,V.fq ky k->w.heap.size<=k):=
 (bk5 w).mono fun _ _ ⟨h1,V,h2,h3,h4,h5,h6,h7⟩=>⟨_,V,h1,⟨h2,funext h5,by rw [h4];exact World.ownsRow_nil _ _ _ _,(fun k hk=>by rw [h4] at hk;cases hk),by rw [h3];exact World.ownsRow_nil _ _ _ _,(fun k hk=>by rw [h3] at hk;cases hk)⟩,h6,fun k hk=>hk.elim (h7 k) (fun e=>e.elim (fun e=>by rw [h4] at e;cases e) (fun e=>by rw [h3] at e;cases e))⟩
theorem br7:(Tryz.prog.info? 49).map (fun i=>(i.zero,i.size,i.bytes))=some (some (.pointer none),1,8):=by kernel_rfl
theorem bk2 (W:World)(o:Obj)(v:Value)(t:TypeId):∀j u,[v][j]?=some u->((W.alloc o).alloc (.cells #[v] t)).cell? ((⟨W.heap.size+1,0,none⟩:Addr).add j)=some u:=
 xj (W.alloc o) [v] t (W.heap.size+1) (by simp)
structure aw7 (w:World)(wb:Nat)(U U':dg)(D:d_)(w':World):Prop where
 at_:fj w' wb U' D
 r0:U'.rl 0=U.rl 0++[.pointer (some ⟨D.sb,0,none⟩)]
 len:∀j,j<6->(U'.rl j).length<=(U.rl j).length+1
 fr:Fr w w' (U.fp wb)
 fpU:∀k,U'.fp wb k->U.fp wb k\/w.heap.size<=k
 cbU:∀k,U'.cb k->U.cb k
 lo:∀k,D.fp k->w.heap.size<=k
theorem bb4 {wb k:Nat}(h:me.fp wb k):k=wb:=by
 rcases h with h | ⟨j,_,h⟩
 ·exact h
 ·simp [me,Value.ownBlock] at h
theorem b30 {k:Nat}(h:me.cb k):False:=by
 obtain ⟨j,v,_,_,h,_⟩:=h;simp [me] at h
theorem bo1 (w:World):np w me:=
 ⟨fun i v hv=>by simp [me] at hv,fun i v hv=>by simp [me] at hv,fun i v hv=>by simp [me] at hv,rfl,fun i v x hv=>by simp [me] at hv⟩
theorem a63 {w W1 W2 Y:World}{wb kb ky g cap:Nat}{U:dg}{V:ah}{VR:ax}(h:iw w wb U)(hgd:np w U)(hm1:(U.rl 1).length % 4=0)(hm2:(U.rl 2).length % 4=0)(hw2:2<=w.heap.size)(k1:aq W1 kb V)(k2:V.ker=kg)(k3:V.dv=.slice none 0 0)(k4':∀k,V.fp kb k->w.heap.size<=k)(k5:Fr w W1 (fun _=>False))
 (r1:RD W2 ky ⟨ao8,[],fun _=>0,[]⟩ VR) (r4:Fr W1 W2 (fun _=>False)) (r5:∀k,VR.fq ky k->W1.heap.size<=k)
 (q3:iw Y wb (U.add 0 (.slice (some ⟨g,0,none⟩) ((U.rl 0).length+1) cap) (.pointer (some ⟨W2.heap.size,0,none⟩))))
 (q4:Fr (W2.alloc (.cells #[.pointer (some ⟨kb,0,none⟩),.pointer (some ⟨ky,0,none⟩)] 53)) Y (U.fp wb))
 (q5:∀k,(U.add 0 (.slice (some ⟨g,0,none⟩) ((U.rl 0).length+1) cap) (.pointer (some ⟨W2.heap.size,0,none⟩))).fp wb k->U.fp wb k\/(W2.alloc (.cells #[.pointer (some ⟨kb,0,none⟩),.pointer (some ⟨ky,0,none⟩)] 53)).heap.size<=k)
 (q6:∀k,(U.add 0 (.slice (some ⟨g,0,none⟩) ((U.rl 0).length+1) cap) (.pointer (some ⟨W2.heap.size,0,none⟩))).cb k->U.cb k\/1<=0/\(Value.pointer (some ⟨W2.heap.size,0,none⟩)).ownBlock=some k) :
 aw7 w wb U (U.add 0 (.slice (some ⟨g,0,none⟩) ((U.rl 0).length+1) cap) (.pointer (some ⟨W2.heap.size,0,none⟩))) ⟨W2.heap.size,kb,ky,V,ao8,[],fun _=>0,[],VR⟩ Y:=by
 have s1:=k5.size;have s2:=r4.size;have fa:Fr W2 Y (U.fp wb):=((Fr.refl W2 (U.fp wb)).alloc _).step q4 (fun k hk=>.inl hk);have f1:Fr W1 Y (U.fp wb):=(r4.mono (fun _=>False.elim)).step fa (fun k hk=>.inl hk);have f0:Fr w Y (U.fp wb):=(k5.mono (fun _=>False.elim)).step f1 (fun k hk=>.inl hk);have hkd:KD W1 kb ⟨V.ker,[]⟩ V:=⟨k1,rfl,by rw [k3];exact World.ownsRow_nil _ _ _ _,fun k hk=>by rw [k3] at hk;cases hk⟩
 have k4:∀k,V.fd kb k->w.heap.size<=k:=fun k hk=>hk.elim (k4' k) (fun e=>by rw [k3] at e;cases e)
 have kl:∀k,V.fd kb k->k<W1.heap.size:=fun k hk=>hkd.fdLt hk
 have rl:∀k,VR.fq ky k->k<W2.heap.size:=fun k hk=>r1.fqLt hk
 have ul:∀k,U.fp wb k->k<w.heap.size:=fun k hk=>h.lt hk
 have hU:∀k,(U.add 0 (.slice (some ⟨g,0,none⟩) ((U.rl 0).length+1) cap) (.pointer (some ⟨W2.heap.size,0,none⟩))).fp wb k->U.fp wb k\/W2.heap.size<k:=fun k hk=>by
  rcases q5 k hk with e | e
  ·exact .inl e
  ·rw [World.size_alloc] at e;exact .inr e
 have hC:∀k,(U.add 0 (.slice (some ⟨g,0,none⟩) ((U.rl 0).length+1) cap) (.pointer (some ⟨W2.heap.size,0,none⟩))).cb k->U.cb k:=fun k hk=>by
  rcases q6 k hk with e | e
  ·exact e
  ·exact absurd e.1 (by decide)
 have hD:∀k,d_.fp ⟨W2.heap.size,kb,ky,V,ao8,[],fun _=>0,[],VR⟩ k->w.heap.size<=k/\k<=W2.heap.size:=by
  rintro k (e | e | e)
  ·have e:k=W2.heap.size:=e;omega
  ·have:=k4 k e;have:=kl k e;omega
  ·have:=r5 k e;have:=rl k e;omega
 have hG:=hgd.frame f0 (fun k hk e=>h.cont k hk e);refine ⟨⟨q3,⟨hG.e,hG.d,hG.i,hG.bx,hG.b⟩,⟨?_,?_,?_,?_,fun k hk=>by have:=k4 k hk;omega,fun _=>⟨Int.le_refl 0,(by decide:(0:Int)<=4294967295)⟩,?_,?_,?_⟩,?_,hm1,hm2⟩,rfl,?_,f0,?_,hC,fun k hk=>(hD k hk).1⟩
 ·exact q4.same (heap_alloc_new _ _) (fun e=>by have:=ul _ e;simp only at this;omega)
 ·exact hkd.frame f1 (fun k hk e=>by have:=k4 k hk;have:=ul k e;omega)
 ·exact r1.frame fa (fun k hk e=>by have:=r5 k hk;have:=ul k e;omega)
 ·show Ag ⟨ao8,[],fun _=>0,[]⟩ ⟨V.ker,[]⟩
  rw [k2];exact ⟨ay9,rfl,fun _ _=>rfl,be8 (fun _=>rfl)⟩
 ·intro e;have:=kl _ e;simp only at this;omega
 ·intro e;have:=rl _ e;simp only at this;omega
 ·intro k e1 e2;have:=kl k e1;have:=r5 k e2;omega
 ·intro k hk;have h1:=hD k hk;refine ⟨fun e=>?_,fun e=>?_⟩
  ·rcases hU k e with e | e
   ·have:=ul k e;omega
   ·omega
  ·have:=h.clt k (hC k e);omega
 ·intro j hj;simp only [dg.add];split
  ·rename_i e;subst e;simp
  ·omega
 ·intro k hk;rcases hU k hk with e | e
  ·exact .inl e
  ·exact .inr (by omega)
theorem ai6 (wb:Nat)(U:dg)(w:World)(h:iw w wb U)(hgd:np w U)(hm1:(U.rl 1).length % 4=0)(hm2:(U.rl 2).length % 4=0)(hl0:(U.rl 0).length<=1)(hgl:iy w):
 Calls Tryz.prog 8 #[.pointer (some ⟨wb,0,none⟩)] w fun e w'=>e=.returned (.bool true)/\∃U' D,aw7 w wb U U' D w':=by
 obtain ⟨i0,hi0,hz0,hz1,hz2⟩:=info_parts br7;go_enter Tryz.func8,Tryz.ntmps8
 go_upto_region 4 with (go_at_call 10;refine (ay6 _ hgl.n0 hgl.n1).mono ?_;rintro e W1 ⟨kb,V,rfl,k1,k2,k3,k4,k5⟩)
 have h1:=h.frame k5 (fun _ _=>id);have c1:W1.cell? ⟨wb,0,none⟩=some (U.rv 0):=aa (o:=0) h1.blk rfl;go_region_law
  (first
  |(go_simp;go_at_call 14;refine (br6 _).mono ?_;rintro e W2 ⟨ky,VR,rfl,r1,r4,r5⟩
    have hF2:Fr W1 W2 (fun _=>False):=r4.drewl;have h2:=h1.frame hF2 (fun _ _=>id);have c2:W2.cell? ⟨wb,0,none⟩=some (U.rv 0):=aa (o:=0) h2.blk rfl;have o2:W2.ownsRow 0 49 1 (U.rv 0) (U.rl 0).length (U.rl 0):=h2.row 0 (by omega);have c3:=((Fr.refl W2 (fun _=>False)).alloc (.cells #[.pointer (some ⟨kb,0,none⟩),.pointer (some ⟨ky,0,none⟩)] 53)).cell c2 id;have c4:=(((Fr.refl W2 (fun _=>False)).alloc (.cells #[.pointer (some ⟨kb,0,none⟩),.pointer (some ⟨ky,0,none⟩)] 53)).alloc (.cells #[.pointer (some ⟨W2.heap.size,0,none⟩)] 49)).cell c2 id)
  |((refine step_append_lies _ rfl _ _ 24 rfl 0 49 i0 _ 1 8 Tryz.underlying24 hi0 hz0 hz1 hz2 rfl (by decide) (U.rv 0) _ _ rfl (World.ownsRow.alloc (World.ownsRow.alloc o2 _) _) ⟨_,0,none⟩ 1 1 [.pointer (some ⟨_,0,none⟩)] rfl rfl (bk2 _ _ _ _) (by simp [Value.oneCell']) (by decide) (by unfold maxLen;omega) (by omega) (Nat.zero_le _) _ rfl ?_);intro g cap Y hown hg hat hlt
    obtain ⟨q1,q2,q3,q4,q5,q6⟩:=iw.add (h2.frame ((Fr.refl W2 (fun _=>False)).alloc (.cells #[.pointer (some ⟨kb,0,none⟩),.pointer (some ⟨ky,0,none⟩)] 53)) (fun _ _=>id)) (j:=0) (by decide) (v:=.pointer (some ⟨W2.heap.size,0,none⟩)) hg hown (hat.imp id (fun e=>by simpa using e)) (fun h=>absurd h (by decide))
    have q0:Y.cell? ⟨wb,0,none⟩=some (U.rv 0):=q1))
 all_goals go_wp2
 all_goals go_ret
 all_goals exact ⟨rfl,_,_,a63 h hgd hm1 hm2 hgl.lt k1 k2 k3 k4 k5 r1 hF2 r5 q3 q4 q5 q6⟩
theorem bg8 {w W1 W2 W3:World}{U1 U2:dg}{D E:d_}{l:List OpD}(f1:Fr (w.alloc (.cells (lc me) 30)) W1 (fun _=>False))(b:aw7 W1 w.heap.size me U1 D W2)(b2:aw7 W2 w.heap.size U1 U2 E W3):qi w w.heap.size U2 D E l.length 0 W3 U2 D E:=by
 have s1:=f1.size;rw [World.size_alloc] at s1;have s2:=b.fr.size;have hU1:∀k,U1.fp w.heap.size k->w.heap.size<=k:=fun k hk=>(b.fpU k hk).elim (fun e=>by have:=bb4 e;omega) (fun e=>by omega)
 have hU2:∀k,U2.fp w.heap.size k->w.heap.size<=k:=fun k hk=>(b2.fpU k hk).elim (hU1 k) (fun e=>by omega)
 have hdis:∀k,D.fp k->¬E.fp k:=fun k hk e=>by have:=b.at_.sd.lt hk;have:=b2.lo k e;omega
 have hF:Fr w W2 (fun _=>False):=(((Fr.refl w (fun _=>False)).alloc _).step f1 (fun _=>False.elim)).step b.fr (fun k hk=>.inr (by have:=bb4 hk;omega))
 refine ⟨⟨b2.at_.law,b2.at_.good,b.at_.sd.frame b2.fr (fun k hk=>(b.at_.sep k hk).1),fun k hk=>⟨fun e=>?_,fun e=>(b.at_.sep k hk).2 (b2.cbU k e)⟩,b2.at_.m1,b2.at_.m2⟩,b2.at_,hdis,hF.step b2.fr (fun k hk=>.inr (hU1 k hk)),?_,rfl,rfl,rfl,fun j hj=>?_,Nat.zero_le _⟩
 ·rcases b2.fpU k e with e | e
  ·exact (b.at_.sep k hk).1 e
  ·have:=b.at_.sd.lt hk;omega
 ·rintro k (e | e | e | e)
  ·exact hU2 k e
  ·exact (b30 (b.cbU k (b2.cbU k e))).elim
  ·have:=b.lo k e;omega
  ·have:=b2.lo k e;omega
 ·have h1:=b.len j hj;have h2:=b2.len j hj;have h3:(me.rl j).length=0:=rfl;omega
theorem b04 (sv:Value)(l:List OpD)(w:World)(hgl:iy w)(hS:an7 w sv l):
 Calls Tryz.prog 6 #[sv] w fun e w'=>e=.returned (.bool true)/\Fr w w' (fun _=>False):=by
 go_enter Tryz.func6,Tryz.ntmps6
 go_upto_region 2 with fail
 have c1:=bj3 (w.alloc (.cells (lc me) 30)) (iy.fr hgl ((Fr.refl _ _).alloc _));go_upto_region 3 with (go_at_call 7;refine c1.mono ?_;rintro e W1 ⟨rfl,f1⟩)
 clear c1;have hF1:=((Fr.refl w (fun _=>False)).alloc (.cells (lc me) 30)).step f1 (fun _=>False.elim);have c2:=ai6 w.heap.size me W1 (bx8 (f1.same (heap_alloc_new _ _) id)) (bo1 W1) rfl rfl (by decide) (iy.fr hgl hF1);go_upto_region 4 with (go_at_call 8;refine c2.mono ?_;rintro e W2 ⟨rfl,U1,D,b⟩)
 clear c2;have hF2:Fr w W2 (fun _=>False):=hF1.step b.fr (fun k hk=>.inr (by have:=bb4 hk;omega))
 have hr1:U1.rl 0=[.pointer (some ⟨D.sb,0,none⟩)]:=b.r0;have c3:=ai6 w.heap.size U1 W2 b.at_.law b.at_.good b.at_.m1 b.at_.m2 (by rw [hr1];exact Nat.le_refl 1) (iy.fr hgl hF2);go_upto_region 5 with (go_at_call 8;refine c3.mono ?_;rintro e W3 ⟨rfl,U2,E,b2⟩)
 clear c3;have c4:=bv_ w w.heap.size U2 D E sv l W3 (bg8 f1 b b2) hgl hS (by rw [b2.r0,hr1];rfl);go_wp2_with (go_at_call 9;refine c4.mono ?_;rintro e W4 ⟨rfl,f4⟩)
 go_ret;exact ⟨rfl,f4⟩
end Go.Proofs.YtdpjgflemddekaaGreatDoor
namespace Go.Proofs.YtdpjgflemddekaaGreatDoor
open Go.ChangeShapes Go.WideShapes Go.RowKit
section
variable {H:Type} {enc:TypeId×Value->H} {w:World}
theorem a48 {fuel:Nat}{v:Value}{x:DataW H×List MemPlace}(h:DataW.trod enc Tryz.prog w 0 (fun _=>true) true fuel 22 [v]=some x)(hb:Rows.uptoBulk x.1<=1048576):∃l,an7 w v l:=by
 rcases Deep.open_slice Tryz.underlying22 h with ⟨hcs,_⟩ | ⟨a,len,cap,m,n,D,Pl,hcs,_,hl,_,hm,hx,hel⟩
 ·cases hcs
  exact ⟨[],⟨⟨none,0,rfl,fun h=>absurd h (by decide)⟩,(fun o ho=>absurd ho (by simp)),Nat.zero_le _⟩⟩
 ·cases hcs
  have hm:m=cap:=hm;rw [hx] at hb;dsimp only at hb;have hs:=ac6 ((List.range len).map D) ((List.range (m-len)).map fun j=>D (len+j))
  have hll:((List.range len).map D).length=len:=by simp
  have hD:∀i,i<len->Rows.uptoBulk (D i)<=1048576:=fun i hi=>by
   have:=az5 (l:=(List.range len).map D) (List.mem_map.2 ⟨i,by simpa using hi,rfl⟩);omega
  have hop:∀i,i<len->∃o:OpD,(∀j u,o.vals[j]?=some u->w.cell? ((a.add (i*15)).add j)=some u)/\b39 w o:=by
   intro i hi;obtain ⟨cs',h1,h2⟩:=hel i (by omega);rw [bd7] at h1;obtain ⟨o,rfl,ho⟩:=bz9 h2 (hD i hi);exact ⟨o,am0 h1,ho⟩
  haveI:Inhabited OpD:=⟨⟨0,0,⟨0,[],[],0,0,0,0,0,0,0⟩,.slice none 0 0,.slice none 0 0,.slice none 0 0,0,false,[]⟩⟩
  obtain ⟨f,hf⟩:=Deep.choose_lt hop;refine ⟨(List.range len).map f,⟨⟨some a,cap,by simp,fun h0=>?_⟩,?_,?_⟩⟩
  ·obtain ⟨g,off,spot⟩:=a;have c0:=(hf 0 (by simpa using h0)).1 0 _ rfl;have hspot:spot=none:=by simpa [Addr.add] using World.cell?_spot c0
   subst hspot;refine ⟨g,off,rfl,fun i hi j x hx=>?_⟩
   have hi':i<len:=by simpa using hi
   have:=(hf i hi').1 j x (by simpa using hx);rw [Go.WideShapes.add_plain,Go.WideShapes.add_plain] at this;exact this
  ·intro o ho;obtain ⟨i,hi,rfl⟩:=List.mem_map.1 ho;exact (hf i (by simpa using hi)).2
  ·simp;omega
end
section
variable {H:Type} {enc:TypeId×Value->H} {w:World}
theorem b15 {α:Type}{l:List α}(h:l.length=2):∃a0 a1,l=[a0,a1]:=by
 match l,h with
 | [a0,a1],_=>exact ⟨_,_,rfl⟩
theorem ai1 {t:TypeId}{f0 f1:Field}{base fuel:Nat}{sp:Nat->Bool}{held:Bool}{cs:List Value}{a b:Int}{p:List MemPlace}(ht:Tryz.prog.underlying t=some (.struct #[f0,f1]))(h0:f0.type=3)(h1:f1.type=3)(o0:f0.offset=0)(o1:f1.offset=1)(hc:Tryz.prog.cellsOf t=2)
 (h:DataW.trod enc Tryz.prog w base sp held fuel t cs=some (.agg [.lit (.int .i64 a),.lit (.int .i64 b)],p)):cs=[.int .i64 a,.int .i64 b]:=by
 obtain ⟨xs,n,_,hx,hl,hxl,hf⟩:=DataW.trod_struct ht h;rw [hc] at hl;have hxl:xs.length=2:=hxl;obtain ⟨c0,c1,rfl⟩:=b15 hl;obtain ⟨x0,x1,rfl⟩:=b15 hxl;have g0:=hf 0 f0 rfl;have g1:=hf 1 f1 rfl;rw [h0,o0,oh] at g0;rw [h1,o1,oh] at g1;have g0:DataW.trod enc Tryz.prog w base sp held n 3 [c0]=some x0:=g0;have g1:DataW.trod enc Tryz.prog w base sp held n 3 [c1]=some x1:=g1;obtain ⟨y0,e0,z0,_⟩:=DataW.trod_int Tryz.underlying3 g0;obtain ⟨y1,e1,z1,_⟩:=DataW.trod_int Tryz.underlying3 g1;cases e0;cases e1
 subst z0;subst z1;simp only [Prod.mk.injEq,DataW.agg.injEq,List.map_cons,List.map_nil,List.cons.injEq,DataW.lit.injEq,Lit.int.injEq,true_and,and_true] at hx;rw [hx.1.1,hx.1.2]
theorem b05 {l:List Value}{k:Nat}{x y:Value}(h:(l.drop k).take 2=[x,y]):l[k]?=some x/\l[k+1]?=some y:=by
 have h0:=congrArg (fun l=>l[0]?) h;have h1:=congrArg (fun l=>l[1]?) h;simp [List.getElem?_drop] at h0 h1;exact ⟨h0,h1⟩
end
theorem b35:Tryz.prog.globalNamed "escheat/escheat.bitsOf" = some 1:=by kernel_rfl
theorem b23:Tryz.prog.globalNamed "escheat/escheat.nowhere" = some 0:=by kernel_rfl
theorem b61:(Tryz.prog.globals[1]?).map (·.type)=some 182:=by kernel_rfl
theorem b63:(Tryz.prog.globals[0]?).map (·.type)=some 71:=by kernel_rfl
theorem bn_:Tryz.prog.cellsOf 181=2:=by kernel_rfl
theorem b26:Tryz.prog.cellsOf 71=2:=by kernel_rfl
theorem by1 {W:World}(h:laidMetH Tryz.prog Rows.allUptoRow.laid W):iy W:=by
 have h':laidMet Tryz.prog [("escheat/escheat.bitsOf",Rows.laid_escheat_escheat_bitsOf),("escheat/escheat.nowhere",Rows.laid_escheat_escheat_nowhere)] W:=h;obtain ⟨ps,⟨g,t,cs,fuel,p,q,hg,ht,hvar,hd,⟨g2,t2,cs2,fuel2,p2,q2,hg2,ht2,hvar2,hd2,_,_⟩,_⟩,_⟩:=h';obtain rfl:=Option.some.inj (b35.symm.trans hg);obtain rfl:=Option.some.inj (b61.symm.trans ht);obtain rfl:=Option.some.inj (b23.symm.trans hg2);obtain rfl:=Option.some.inj (b63.symm.trans ht2);have hn:=ai1 Tryz.underlying71 rfl rfl rfl rfl b26 hd2;obtain ⟨xs,m,_,hx,hl,hxl,hf⟩:=DataW.trod_array Tryz.underlying182 hd;match xs,hxl with
 | [x0,x1,x2,x3,x4,x5],_=>
  simp only [Rows.laid_escheat_escheat_bitsOf,Prod.mk.injEq,DataW.agg.injEq,List.map_cons,List.map_nil,List.cons.injEq,and_true] at hx;obtain ⟨⟨e0,e1,e2,e3,e4,e5⟩,_⟩:=hx;have pr:∀(i:Nat) (hi:i<6) (x:DataW Unit×List MemPlace) (a b:Int),[x0,x1,x2,x3,x4,x5][i]?=some x->DataW.agg [.lit (.int .i64 a),.lit (.int .i64 b)]=x.1->W.cell? ⟨1,i*2,none⟩=some (.int .i64 a)/\W.cell? ⟨1,i*2+1,none⟩=some (.int .i64 b):=by
   intro i hi x a b h1 h2;have h3:=hf i hi;rw [h1,bn_] at h3;obtain ⟨xd,xp⟩:=x;have h2:DataW.agg [.lit (.int .i64 a),.lit (.int .i64 b)]=xd:=h2;subst h2;have h4:=b05 (ai1 Tryz.underlying181 rfl rfl rfl rfl bn_ h3);rw [World.var?_cell b35 hvar,World.var?_cell b35 hvar];simpa using h4
  refine ⟨?_,?_,fun i hi=>?_⟩
  ·rw [World.var?_cell b23 hvar2];have:=congrArg (fun l=>l[0]?) hn;simpa using this
  ·rw [World.var?_cell b23 hvar2];have:=congrArg (fun l=>l[1]?) hn;simpa using this
  ·have:i=0\/i=1\/i=2\/i=3\/i=4\/i=5:=by omega
   rcases this with rfl | rfl | rfl | rfl | rfl | rfl
   ·exact pr 0 (by decide) _ _ _ rfl e0
   ·exact pr 1 (by decide) _ _ _ rfl e1
   ·exact pr 2 (by decide) _ _ _ rfl e2
   ·exact pr 3 (by decide) _ _ _ rfl e3
   ·exact pr 4 (by decide) _ _ _ rfl e4
   ·exact pr 5 (by decide) _ _ _ rfl e5
theorem bu1 {w w':World}(h:Fr w w' (fun _=>False)):RowKit.Below w.heap.size w w':=⟨h.os,h.tape,h.output,h.size,fun k hk=>h.block k hk id⟩
theorem au5 (H:Type)(enc:TypeId×Value->H)(W:World)(base:Nat)(args:Array Value)(ds gs:List (DataW H))(before:List MemPlace)
 (hval:∀(j:Nat) t v,Tryz.f6.params[j]?=some t->args[j]?=some v->Value.okWide Tryz.prog W .any base t v)
 (hW:DataW.Whole enc Tryz.prog Tryz.f6.params.toList Rows.allSpec.vars false W args.toList ds gs before) (hk:Rows.uptoSmall H (ds++gs)=true) (hL:laidMetH Tryz.prog Rows.allUptoRow.laid W) :
 Calls Tryz.prog 6 args W fun e W'=>∃v,e=.returned v/\Rows.allSpec.post enc Tryz.prog Tryz.f6 false true false false W args v W':=by
 have hW':=hW;obtain ⟨p,q,hA0,hV,rfl,hfz,hnd⟩:=hW;have hA:DataW.TrodAll enc Tryz.prog W 0 (fun _=>true) true Tryz.f6.params.toList args.toList ds p:=hA0;rw [Tryz.params6] at hA hval;obtain ⟨v0,vs0,d0,ds0,p0,q0,hargs,rfl,rfl,h0,r0⟩:=trodAll_cons hA;obtain ⟨rfl,rfl,rfl⟩:=trodAll_nil r0;have hargs':args=#[v0]:=Array.toList_inj.1 hargs;subst hargs';obtain ⟨rfl,rfl⟩:=trodVars_none hV;have hx1:(#[v0]:Array Value)[0]?=some v0:=by simp
 have hx0:(#[22]:Array TypeId)[0]?=some 22:=by simp
 have hv0:=hval 0 _ v0 hx0 hx1;obtain ⟨a0,len,cap,rfl⟩:=okWide_slice Tryz.underlying22 hv0;clear hA0;simp only [List.append_nil] at hW';have hlt:=hW'.lt;have h0':=h0;obtain ⟨fuel,hf⟩:=h0;have hf':DataW.trod enc Tryz.prog W 0 (fun _=>true) true fuel 22 [.slice a0 len cap]=some (d0,p0):=hf;have hb:Rows.uptoBulk d0<=1048576:=by
  have h:=of_decide_eq_true hk;simp only [List.append_nil,Rows.uptoBulkAll] at h;omega
 obtain ⟨l,hS⟩:=a48 hf' hb;refine (b04 _ l W (by1 hL) hS).mono fun e W' ⟨he,hfr⟩=>?_
 subst he;have hbl:=bu1 hfr;have hst:∀sp:Nat->Bool,(∀x∈p0,sp x.block=true)->DataW.Trod enc Tryz.prog W' 0 sp true 22 (.slice a0 len cap) d0 p0:=fun sp hsp=>
  WideElems.Trod_stays (by kernel_rfl) (by kernel_rfl) (of_decide_eq_true (by kernel_rfl)) h0' (fun x hx=>hbl.same (hlt x hx)) hsp
 refine ⟨_,rfl,[d0],[],p0,[],p0,[],hW',trodAll_cons_mk (shut_bool Tryz.underlying4 _) trodAll_mk0,?_,rfl,hbl.frame _,fun h=>by cases h⟩
 have:=trodAll_cons_mk (hst (fun b=>decide (b<W.heap.size)) (fun x hx=>by simpa using hlt x hx)) trodAll_mk0
 rw [List.append_nil] at this;exact this
end Go.Proofs.YtdpjgflemddekaaGreatDoor
namespace Go.Proofs.YtdpjgflemddekaaGreatDoor
open Go.ChangeShapes Go.WideShapes Go.ChangeAt Go.RowKit
theorem b62:ownKnob Tryz.prog.godebug=none:=by kernel_rfl
def ax2 (cs:Array Value):Obj->Obj
 | .cells _ t frozen=>.cells cs t frozen
 | o=>o
def ba4 (w:World):World:=
 {w with heap:=((w.heap.modify 0 (ax2 #[.int .i64 (-1),.int .i64 (-1)])).modify 1 (ax2 #[.int .i64 1,.int .i64 0,.int .i64 4,.int .i64 10,.int .i64 3,.int .i64 6,.int .i64 2,.int .i64 2,.int .i64 4,.int .i64 4,.int .i64 2,.int .i64 6]))}
theorem bs_ (os:Os):laidMet Tryz.prog Rows.allUptoRow.laid ((ba4 (World.holding Tryz.prog os ⟨#[],#[],[]⟩)).forCall (fun _ _=>0) ⟨#[],#[.slice none 0 0],[]⟩).memory:=
 laidMet_of_run' 8 (by kernel_rfl) (by kernel_rfl)
theorem b52 (os:Os){H:Type}(enc:TypeId×Value->H):∃places,DataW.whole enc Tryz.prog ((ba4 (World.holding Tryz.prog os ⟨#[],#[],[]⟩)).forCall (fun _ _=>0) ⟨#[],#[.slice none 0 0],[]⟩).memory Tryz.f6.params.toList Rows.allSpec.vars false #[Value.slice none 0 0].toList 8=some ([.nil],[],places):=
 ⟨[],by kernel_rfl⟩
theorem a68 (os:Os)(started:os.Started)(H:Type)(enc:TypeId×Value->H)(F:Stop.Interp):
 ReturnsInHanded {} Tryz.checked os 6 .any ((Rows.OpenSpec.upto Rows.allSpec).preRow enc Tryz.prog Tryz.f6 Rows.allUptoRow.domain false Rows.allUptoRow.laid) (((Rows.OpenSpec.upto Rows.allSpec).at F).post enc Tryz.prog Tryz.f6 false true false false):=by
 obtain ⟨places,hx⟩:=b52 os enc;refine returnsInHanded_of_row (C:=Tryz.checked) (s:=Rows.OpenSpec.upto Rows.allSpec) b62 started (by kernel_rfl) Tryz.func6
  (witness_row_at (enc:=enc) (C:=Tryz.checked) false (ba4 (World.holding Tryz.prog os ⟨#[],#[],[]⟩)) #[.slice none 0 0] rfl (by kernel_rfl) (by kernel_rfl) (by kernel_rfl)
    (OpenSpec.preRow_of_cond 8 hx (by kernel_rfl) (fun k hk=>by cases hk;kernel_rfl) (by kernel_rfl) (bs_ os))) ?_
 intro W base args ds gs before hval hW _ hcond _ hL _ _;exact au5 H enc W base args ds gs before hval hW (hcond _ rfl) hL
theorem bt1:Rows.AllUptoSaid:=
 OpenClaim.holds_of_cond 6 Tryz.f6 rfl rfl rfl rfl rfl rfl rfl ⟨rfl,rfl,rfl,rfl,rfl⟩ rfl rfl rfl rfl rfl (by kernel_rfl) Tryz.func6 (by kernel_rfl)
  (of_decide_eq_true (by kernel_rfl)) (by unfold Func.isWrapper;first | (rw [if_pos (by decide +kernel)];kernel_rfl) | (rw [if_neg (by decide +kernel)];exact ⟨rfl,rfl⟩))
  (fun os started H enc _ F=>by rw [OpenClaim.pre_eq_preRow];exact a68 os started H enc F)
theorem bi3 (f:FuncId)(fn:Func)(hf:Tryz.pinned.checked.prog.funcNamed "escheat/escheatlaw.All" = some f)(hfn:Tryz.pinned.checked.prog.funcs[f]?=some fn):
 true=Tryz.pinned.checked.prog.looks []/\∀(j:Nat) t,fn.params[j]?=some t->Tryz.pinned.checked.prog.wantsStandIn t=false:=by
 obtain rfl:f=6:=Option.some.inj ((show Tryz.prog.funcNamed "escheat/escheatlaw.All" = some 6 by kernel_rfl).symm.trans hf) |>.symm;obtain rfl:fn=Tryz.f6:=(Option.some.inj (Tryz.func6.symm.trans hfn)).symm;refine ⟨by kernel_rfl,fun j t ht=>?_⟩
 rw [Tryz.params6] at ht;obtain rfl:t=22:=by simpa using Array.mem_of_getElem? ht
 exact (show Tryz.prog.wantsStandIn 22=false by kernel_rfl)
theorem all_card:Rows.AllUptoCardSaid:=
 Claim7.holds_tied_plain_at .later [] _ _ _ _ bt1 (fun _ h=>by cases h) (by kernel_rfl) (fun _ h=>by cases h) allUpto_row_tie rfl ⟨rfl,rfl⟩ (by kernel_rfl) rfl bi3 (by kernel_rfl)
end Go.Proofs.YtdpjgflemddekaaGreatDoor
