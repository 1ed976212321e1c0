/- The keeping statements: size, find, meet, above. -/
import Derived.Test.YtdpjgflemddekaaDoorMCodeK
set_option maxRecDepth 100000
set_option maxHeartbeats 40000000
namespace Go.Proofs.YtdpjgflemddekaaDoor
open Go.RowKit
structure b76 (w:World)(g o:Nat)(e:ee):Prop where
 c0:w.cell? ⟨g,o,none⟩=some (.int .i64 e.node)
 c1:w.cell? ⟨g,o+1,none⟩=some (.int .i64 e.index)
 c2:w.cell? ⟨g,o+2,none⟩=some (.int .i64 e.ty)
 c3:w.cell? ⟨g,o+3,none⟩=some (.int .i64 e.base)
 c4:w.cell? ⟨g,o+4,none⟩=some (.int .i64 e.bits)
 c5:w.cell? ⟨g,o+5,none⟩=some (.int .i64 e.rights)
 c6:w.cell? ⟨g,o+6,none⟩=some (.int .i64 e.badge)
 c7:w.cell? ⟨g,o+7,none⟩=some (.int .i64 e.mark)
 c8:w.cell? ⟨g,o+8,none⟩=some (.int .i64 e.parent)
 c9:w.cell? ⟨g,o+9,none⟩=some (.int .i64 e.place)
theorem mr {w:World}{g:Nat}{L:List ee}(h:∀i (hi:i<L.length) j x,(L[i].vals)[j]?=some x->w.cell? ⟨g,i*10+j,none⟩=some x)(i:Nat)(hi:i<L.length):b76 w g (i*10) L[i]:=
 ⟨h i hi 0 _ rfl,h i hi 1 _ rfl,h i hi 2 _ rfl,h i hi 3 _ rfl,h i hi 4 _ rfl,h i hi 5 _ rfl,h i hi 6 _ rfl,h i hi 7 _ rfl,h i hi 8 _ rfl,h i hi 9 _ rfl⟩
def wy (nd ix:Int)(e:ee):Bool:=e.node==nd && e.index==ix
def fu (A:List ee)(nd ix:Int):Int:=av1 (A.findIdx? (wy nd ix))
theorem pw2 (k:Nat):2*pw k=pw (k+1):=(b05 k).symm
theorem ac9 (t b n r g m:Int)(w:World)(h0:0<=n)(h1:n<=10):
 Calls Tryd.prog 55 #[.agg #[.int .i64 t,.int .i64 b,.int .i64 n,.int .i64 r,.int .i64 g,.int .i64 m]] w fun e w'=>e=.returned (.int .i64 (pw n.toNat))/\Fr w w' (fun _=>False):=by
 have hf:=(Fr.refl w (fun _=>False)).alloc (.cells #[.int .i64 t,.int .i64 b,.int .i64 n,.int .i64 r,.int .i64 g,.int .i64 m] 51);have hb:=heap_alloc_new w (.cells #[.int .i64 t,.int .i64 b,.int .i64 n,.int .i64 r,.int .i64 g,.int .i64 m] 51);go_enter Tryd.func55,Tryd.ntmps55
 go_wp2;generalize w.alloc _=W at hf hb ⊢;have c2:=aa (o:=2) hb rfl;clear hb;go_loop [3,4] (fun a i=>∃k:Nat,(k:Int)<=n/\a=.int .i64 (pw k)/\i=.int .i64 k) (fun _ i=>n.toNat-(intOf i).toNat)
 case atStart=>exact ⟨0,h0,rfl,rfl⟩
 case round=>
  obtain ⟨k,hk,rfl,rfl⟩:=hrel;have hp:=vi k (by omega);have hp0:=gy k;have hw:wrap64 (2*pw k)=pw (k+1):=by rw [pw2];have:=vi (k+1) (by omega);have:=gy (k+1);unfold wrap64;omega
  by_cases hlt:(k:Int)<n
  ·go_wp2;all_goals first
    |(exfalso;omega)
    | exact ⟨⟨k+1,by omega,by first | rw [pw2] | rw [hw] | simp only [pw2],by go_num⟩,by simp [intOf];omega⟩
  ·go_wp2;go_ret;have hkn:k=n.toNat:=by omega
   exact ⟨by rw [hkn];rfl,hf⟩
theorem oj (A:List ee)(v:Value)(nd ix:Int)(w:World)(hn:A.length<=1000000)(hr:jx w ee.vals 10 v A):
 Calls Tryd.prog 20 #[v,.int .i64 nd,.int .i64 ix] w fun e w'=>e=.returned (.int .i64 (fu A nd ix))/\w'=w:=by
 obtain ⟨P,cap,rfl,hA⟩:=hr;go_enter Tryd.func20,Tryd.ntmps20
 go_wp2;go_loop [7] (fun i=>∃k:Nat,k<=A.length/\i=.int .i64 k/\∀j (hj:j<A.length),j<k->wy nd ix A[j]=false) (fun i=>A.length-(intOf i).toNat)
 case atStart=>exact ⟨0,Nat.zero_le _,rfl,fun j hj h=>absurd h (by omega)⟩
 case round=>
  obtain ⟨k,hk,rfl,hno⟩:=hrel;by_cases hlt:k<A.length
  ·obtain ⟨g,rfl,hc⟩:=hA (by omega);have he:=mr hc k hlt;obtain ⟨h0,h1,_,_,_,_,_,_,_,_⟩:=he;clear hc hA;go_wp2
   ·go_ret;exact ⟨bh3 (a48 hlt hno (by simp_all [wy])).symm,rfl⟩
   ·exact ⟨⟨k+1,by omega,by go_num,bi1 hlt hno (by simp_all [wy])⟩,by simp [intOf];omega⟩
   ·exact ⟨⟨k+1,by omega,by go_num,bi1 hlt hno (by simp_all [wy])⟩,by simp [intOf];omega⟩
  ·go_wp2;go_ret;exact ⟨bh3 (ai4 hlt hno).symm,rfl⟩
theorem bj {W:World}{B:Nat}{t b n r g m:Int}{ty:TypeId}(h:W.heap[B]?=some (.cells #[.int .i64 t,.int .i64 b,.int .i64 n,.int .i64 r,.int .i64 g,.int .i64 m] ty (0,0))):
 W.cell? ⟨B,0,none⟩=some (.int .i64 t)/\W.cell? ⟨B,1,none⟩=some (.int .i64 b)/\W.cell? ⟨B,2,none⟩=some (.int .i64 n)/\W.cell? ⟨B,3,none⟩=some (.int .i64 r)/\W.cell? ⟨B,4,none⟩=some (.int .i64 g)/\W.cell? ⟨B,5,none⟩=some (.int .i64 m):=
 ⟨aa (o:=0) h rfl,aa (o:=1) h rfl,aa (o:=2) h rfl,aa (o:=3) h rfl,aa (o:=4) h rfl,aa (o:=5) h rfl⟩
def sj (Ba Bb:Nat)(t b n r g m t' b' n' r' g' m':Int)(w':World):Prop:=
 (w'.cell? ⟨Ba,0,none⟩=some (.int .i64 t)/\w'.cell? ⟨Ba,1,none⟩=some (.int .i64 b)/\w'.cell? ⟨Ba,2,none⟩=some (.int .i64 n)/\w'.cell? ⟨Ba,3,none⟩=some (.int .i64 r)/\w'.cell? ⟨Ba,4,none⟩=some (.int .i64 g)/\w'.cell? ⟨Ba,5,none⟩=some (.int .i64 m))/\(w'.cell? ⟨Bb,0,none⟩=some (.int .i64 t')/\w'.cell? ⟨Bb,1,none⟩=some (.int .i64 b')/\w'.cell? ⟨Bb,2,none⟩=some (.int .i64 n')/\w'.cell? ⟨Bb,3,none⟩=some (.int .i64 r')/\w'.cell? ⟨Bb,4,none⟩=some (.int .i64 g')/\w'.cell? ⟨Bb,5,none⟩=some (.int .i64 m'))
theorem ar2 (t b n r g m t' b' n' r' g' m':Int)(w:World)(h0:0<=n)(h1:n<=10)(hb0:0<=b)(hb1:b<=1024)(h0':0<=n')(h1':n'<=10)(hb0':0<=b')(hb1':b'<=1024):
 Calls Tryd.prog 54 #[.agg #[.int .i64 t,.int .i64 b,.int .i64 n,.int .i64 r,.int .i64 g,.int .i64 m],.agg #[.int .i64 t',.int .i64 b',.int .i64 n',.int .i64 r',.int .i64 g',.int .i64 m']] w
  fun e w'=>e=.returned (.bool (decide (b<b'+pw n'.toNat/\b'<b+pw n.toNat)))/\Fr w w' (fun _=>False):=by
 have hp:=vi n.toNat (by omega);have hp0:=gy n.toNat;have hp':=vi n'.toNat (by omega);have hp0':=gy n'.toNat;obtain ⟨hf,hsz,hba,hbb⟩:=m6 (w:=w) (a:=.cells #[.int .i64 t,.int .i64 b,.int .i64 n,.int .i64 r,.int .i64 g,.int .i64 m] 51) (b:=.cells #[.int .i64 t',.int .i64 b',.int .i64 n',.int .i64 r',.int .i64 g',.int .i64 m'] 51) rfl;have ks:∀T B N R G M W,(N=n\/N=n')->Calls Tryd.prog 55 #[.agg #[.int .i64 T,.int .i64 B,.int .i64 N,.int .i64 R,.int .i64 G,.int .i64 M]] W fun e w'=>e=.returned (.int .i64 (pw N.toNat))/\Fr W w' (fun _=>False):=fun T B N R G M W hN=>ac9 T B N R G M W (by omega) (by omega)
 obtain ⟨q,hq⟩:∃q,Hid (pw n.toNat=q):=⟨_,rfl⟩;obtain ⟨q',hq'⟩:∃q',Hid (pw n'.toNat=q'):=⟨_,rfl⟩;rw [hq.out] at hp hp0 ⊢;rw [hq'.out] at hp' hp0' ⊢;obtain ⟨x,hx⟩:∃x,Hid (decide (b<b'+q'/\b'<b+q)=x):=⟨_,rfl⟩;rw [hx.out];go_enter Tryd.func54,Tryd.ntmps54
 go_upto_region 1 with fail
 generalize (w.alloc _).alloc _=W at hf hba hbb ⊢;have hne:¬w.heap.size=w.heap.size+1:=by omega
 obtain ⟨a0,a1,a2,a3,a4,a5⟩:=bj hba;obtain ⟨e0,e1,e2,e3,e4,e5⟩:=bj hbb;generalize w.heap.size+1=Bb at hbb hne e0 e1 e2 e3 e4 e5 ⊢;generalize w.heap.size=Ba at hba hne a0 a1 a2 a3 a4 a5 ⊢;have HW1:IntKind.i64.wrap (b'+q')=b'+q':=l_ _ (by omega) (by omega);have HW2:IntKind.i64.wrap (b+q)=b+q:=l_ _ (by omega) (by omega);by_cases hlt:b<b'+q'
 ·have hd1:decide (b<IntKind.i64.wrap (b'+q'))=true:=by rw [HW1];simpa using hlt
  have hd2:decide (b'<IntKind.i64.wrap (b+q))=x:=by rw [HW2,<- hx.out];simp [hlt]
  clear hx HW1 HW2 hsz hp hp0 hp' hp0' hb0 hb1 hb0' hb1' h0 h1 h0' h1' hlt hne;go_region_held3 (fun w'=>(w'.cell? ⟨Ba,0,none⟩=some (.int .i64 t)/\w'.cell? ⟨Ba,1,none⟩=some (.int .i64 b)/\w'.cell? ⟨Ba,2,none⟩=some (.int .i64 n)/\w'.cell? ⟨Ba,3,none⟩=some (.int .i64 r)/\w'.cell? ⟨Ba,4,none⟩=some (.int .i64 g)/\w'.cell? ⟨Ba,5,none⟩=some (.int .i64 m))/\(w'.cell? ⟨Bb,0,none⟩=some (.int .i64 t')/\w'.cell? ⟨Bb,1,none⟩=some (.int .i64 b')/\w'.cell? ⟨Bb,2,none⟩=some (.int .i64 n')/\w'.cell? ⟨Bb,3,none⟩=some (.int .i64 r')/\w'.cell? ⟨Bb,4,none⟩=some (.int .i64 g')/\w'.cell? ⟨Bb,5,none⟩=some (.int .i64 m'))) (go_keep)
   (first
   |(go_at_call 55;refine (ks _ _ _ _ _ _ _ (by first | exact .inl rfl | exact .inr rfl)).mono ?_;rw [hq'.out];rintro e W1 ⟨rfl,hf1⟩;have hF1:=hf.drew.step hf1 (fun _=>False.elim);obtain ⟨a0',a1',a2',a3',a4',a5'⟩:=bj (hf1.same hba id);obtain ⟨e0',e1',e2',e3',e4',e5'⟩:=bj (hf1.same hbb id);have hba1:=hf1.same hba id;have hbb1:=hf1.same hbb id)
   |(go_at_call 55;refine (ks _ _ _ _ _ _ _ (by first | exact .inl rfl | exact .inr rfl)).mono ?_;rw [hq.out];rintro e W2 ⟨rfl,hf2⟩;have hF2:=hF1.step hf2 (fun _=>False.elim);obtain ⟨x0,x1,x2,x3,x4,x5⟩:=bj (hf2.same hba1 id);obtain ⟨y0,y1,y2,y3,y4,y5⟩:=bj (hf2.same hbb1 id)))
  all_goals go_wp2
  all_goals go_ret
  all_goals exact ⟨rfl,hF2⟩
 ·have hd1:decide (b<IntKind.i64.wrap (b'+q'))=false:=by rw [HW1];simpa using hlt
  have hx0:x=false:=by rw [<- hx.out];simp [hlt]
  clear hx HW1 HW2 hsz hp hp0 hp' hp0' hb0 hb1 hb0' hb1' h0 h1 h0' h1' hlt hne;have hS0:sj Ba Bb t b n r g m t' b' n' r' g' m' W:=⟨⟨a0,a1,a2,a3,a4,a5⟩,e0,e1,e2,e3,e4,e5⟩;refine wp_region_noPanic ?_;refine wp_region_held_drew (S:=sj Ba Bb t b n r g m t' b' n' r' g' m') (by kernel_rfl) hS0 (fun hHeld=>?_);refine wpAnyH_take (i:=0) (oi:={dst:=some 5,op:=Op.fieldAddr 51 (Operand.tmp 2) 1,type:=0,pos:= "keep.go:130",after:=#[],guard:=none}) (v:=.pointer (some ⟨Ba,1,none⟩)) rfl (by kernel_rfl) (by kernel_rfl) (by kernel_rfl) (fun _ _ _ h=>h) (Or.inl ⟨by rfl,?_⟩) hHeld ?_
  ·intro w hSw;unfold sj at hSw;go_simp
  simp only [Act.put,List.setIfInBounds_toArray,List.set_cons_zero,List.set_cons_succ];refine wpAnyH_take (i:=2) (oi:={dst:=some 7,op:=Op.fieldAddr 51 (Operand.tmp 3) 1,type:=0,pos:= "keep.go:130",after:=#[],guard:=none}) (v:=.pointer (some ⟨Bb,1,none⟩)) rfl (by kernel_rfl) (by kernel_rfl) (by kernel_rfl) (fun _ _ _ h=>h) (Or.inl ⟨by rfl,?_⟩) hHeld ?_
  ·intro w hSw;unfold sj at hSw;go_simp
  simp only [Act.put,List.setIfInBounds_toArray,List.set_cons_zero,List.set_cons_succ];refine wpAnyH_take (i:=1) (oi:={dst:=some 6,op:=Op.load 3 (Operand.tmp 5),type:=3,pos:= "keep.go:130",after:=#[{on:=0,ground:=Ground.data}],guard:=none}) (v:=.int .i64 b) rfl (by kernel_rfl) (by kernel_rfl) (by kernel_rfl) (fun _ _ _ h=>h) (Or.inl ⟨by rfl,?_⟩) hHeld ?_
  ·intro w hSw;unfold sj at hSw;go_simp
  simp only [Act.put,List.setIfInBounds_toArray,List.set_cons_zero,List.set_cons_succ];refine wpAnyH_take (i:=3) (oi:={dst:=some 8,op:=Op.load 3 (Operand.tmp 7),type:=3,pos:= "keep.go:130",after:=#[{on:=2,ground:=Ground.data}],guard:=none}) (v:=.int .i64 b') rfl (by kernel_rfl) (by kernel_rfl) (by kernel_rfl) (fun _ _ _ h=>h) (Or.inl ⟨by rfl,?_⟩) hHeld ?_
  ·intro w hSw;unfold sj at hSw;go_simp
  simp only [Act.put,List.setIfInBounds_toArray,List.set_cons_zero,List.set_cons_succ];refine wpAnyH_take (i:=4) (oi:={dst:=some 9,op:=Op.load 51 (Operand.tmp 3),type:=51,pos:= "keep.go:130",after:=#[],guard:=none}) (v:=.agg #[.int .i64 t',.int .i64 b',.int .i64 n',.int .i64 r',.int .i64 g',.int .i64 m']) rfl (by kernel_rfl) (by kernel_rfl) (by kernel_rfl) (fun _ _ _ h=>h) (Or.inl ⟨by rfl,?_⟩) hHeld ?_
  ·intro w hSw;unfold sj at hSw;go_simp
  simp only [Act.put,List.setIfInBounds_toArray,List.set_cons_zero,List.set_cons_succ];refine wpAnyH_ready (rs:=[5]) (by kernel_rfl) (by simp) ?_;refine AllReadyH.cons rfl (fun K hK=>?_) AllReadyH.nil;go_simp
  refine (ks _ _ _ _ _ _ _ (by first | exact .inl rfl | exact .inr rfl)).mono ?_;rw [hq'.out];rintro e W1 ⟨rfl,hf1⟩;have hF1:=hf.drew.step hf1 (fun _=>False.elim);refine hK.out _ _ (show sj Ba Bb t b n r g m t' b' n' r' g' m' W1 from ⟨bj (hf1.same hba id),bj (hf1.same hbb id)⟩) (fun hHeld=>?_);clear hK K;refine wpAnyH_take (i:=6) (oi:={dst:=some 11,op:=Op.binOp BinOp.add 3 (Operand.tmp 8) (Operand.tmp 10) 3,type:=3,pos:= "keep.go:130",after:=#[{on:=3,ground:=Ground.data},{on:=5,ground:=Ground.data}],guard:=none}) (v:=.int .i64 (IntKind.i64.wrap (b'+q'))) rfl (by kernel_rfl) (by kernel_rfl) (by kernel_rfl) (fun _ _ _ h=>h) (Or.inl ⟨by rfl,?_⟩) hHeld ?_
  ·intro w hSw;unfold sj at hSw;go_simp
  simp only [Act.put,List.setIfInBounds_toArray,List.set_cons_zero,List.set_cons_succ];refine wpAnyH_take (i:=7) (oi:={dst:=some 12,op:=Op.binOp BinOp.lss 3 (Operand.tmp 6) (Operand.tmp 11) 3,type:=4,pos:= "keep.go:130",after:=#[{on:=1,ground:=Ground.data},{on:=6,ground:=Ground.data}],guard:=none}) (v:=.bool false) rfl (by kernel_rfl) (by kernel_rfl) (by kernel_rfl) (fun _ _ _ h=>h) (Or.inl ⟨by rfl,?_⟩) hHeld ?_
  ·intro w hSw;unfold sj at hSw;go_simp
  simp only [Act.put,List.setIfInBounds_toArray,List.set_cons_zero,List.set_cons_succ];refine wpAnyH_take (i:=8) (oi:={dst:=some 13,op:=Op.move (Operand.tmp 12),type:=4,pos:= "keep.go:130",after:=#[{on:=7,ground:=Ground.data},{on:=5,ground:=Ground.chain}],guard:=none}) (v:=.bool false) rfl (by kernel_rfl) (by kernel_rfl) (by kernel_rfl) (fun _ _ _ h=>h) (Or.inl ⟨by rfl,?_⟩) hHeld ?_
  ·intro w hSw;unfold sj at hSw;go_simp
  simp only [Act.put,List.setIfInBounds_toArray,List.set_cons_zero,List.set_cons_succ];refine wpAnyH_take (i:=9) (oi:={dst:=some 14,op:=Op.fieldAddr 51 (Operand.tmp 3) 1,type:=0,pos:= "keep.go:130",after:=#[{on:=8,ground:=Ground.guard}],guard:=some (8,true)}) (v:=undef) rfl (by kernel_rfl) (by kernel_rfl) (by kernel_rfl) (fun _ _ _ h=>h) (Or.inr ⟨by rfl,rfl⟩) hHeld ?_;simp only [Act.put,List.setIfInBounds_toArray,List.set_cons_zero,List.set_cons_succ];refine wpAnyH_take (i:=10) (oi:={dst:=some 15,op:=Op.load 3 (Operand.tmp 14),type:=3,pos:= "keep.go:130",after:=#[{on:=9,ground:=Ground.data},{on:=8,ground:=Ground.guard}],guard:=some (8,true)}) (v:=undef) rfl (by kernel_rfl) (by kernel_rfl) (by kernel_rfl) (fun _ _ _ h=>h) (Or.inr ⟨by rfl,rfl⟩) hHeld ?_;simp only [Act.put,List.setIfInBounds_toArray,List.set_cons_zero,List.set_cons_succ];refine wpAnyH_take (i:=11) (oi:={dst:=some 16,op:=Op.fieldAddr 51 (Operand.tmp 2) 1,type:=0,pos:= "keep.go:130",after:=#[{on:=8,ground:=Ground.guard}],guard:=some (8,true)}) (v:=undef) rfl (by kernel_rfl) (by kernel_rfl) (by kernel_rfl) (fun _ _ _ h=>h) (Or.inr ⟨by rfl,rfl⟩) hHeld ?_;simp only [Act.put,List.setIfInBounds_toArray,List.set_cons_zero,List.set_cons_succ];refine wpAnyH_take (i:=12) (oi:={dst:=some 17,op:=Op.load 3 (Operand.tmp 16),type:=3,pos:= "keep.go:130",after:=#[{on:=11,ground:=Ground.data},{on:=8,ground:=Ground.guard}],guard:=some (8,true)}) (v:=undef) rfl (by kernel_rfl) (by kernel_rfl) (by kernel_rfl) (fun _ _ _ h=>h) (Or.inr ⟨by rfl,rfl⟩) hHeld ?_;simp only [Act.put,List.setIfInBounds_toArray,List.set_cons_zero,List.set_cons_succ];refine wpAnyH_take (i:=13) (oi:={dst:=some 18,op:=Op.load 51 (Operand.tmp 2),type:=51,pos:= "keep.go:130",after:=#[{on:=8,ground:=Ground.guard}],guard:=some (8,true)}) (v:=undef) rfl (by kernel_rfl) (by kernel_rfl) (by kernel_rfl) (fun _ _ _ h=>h) (Or.inr ⟨by rfl,rfl⟩) hHeld ?_;simp only [Act.put,List.setIfInBounds_toArray,List.set_cons_zero,List.set_cons_succ];refine wpAnyH_take (i:=14) (oi:={dst:=some 19,op:=Op.call {callee:=Callee.value (Operand.func 55),args:=#[Operand.tmp 18],argTypes:=#[51]},type:=3,pos:= "keep.go:130",after:=#[{on:=13,ground:=Ground.data},{on:=8,ground:=Ground.chain},{on:=8,ground:=Ground.guard}],guard:=some (8,true)}) (v:=undef) rfl (by kernel_rfl) (by kernel_rfl) (by kernel_rfl) (fun _ _ _ h=>h) (Or.inr ⟨by rfl,rfl⟩) hHeld ?_;simp only [Act.put,List.setIfInBounds_toArray,List.set_cons_zero,List.set_cons_succ];refine wpAnyH_take (i:=15) (oi:={dst:=some 20,op:=Op.binOp BinOp.add 3 (Operand.tmp 17) (Operand.tmp 19) 3,type:=3,pos:= "keep.go:130",after:=#[{on:=12,ground:=Ground.data},{on:=14,ground:=Ground.data},{on:=8,ground:=Ground.guard}],guard:=some (8,true)}) (v:=undef) rfl (by kernel_rfl) (by kernel_rfl) (by kernel_rfl) (fun _ _ _ h=>h) (Or.inr ⟨by rfl,rfl⟩) hHeld ?_;simp only [Act.put,List.setIfInBounds_toArray,List.set_cons_zero,List.set_cons_succ];refine wpAnyH_take (i:=16) (oi:={dst:=some 21,op:=Op.binOp BinOp.lss 3 (Operand.tmp 15) (Operand.tmp 20) 3,type:=4,pos:= "keep.go:130",after:=#[{on:=10,ground:=Ground.data},{on:=15,ground:=Ground.data},{on:=8,ground:=Ground.guard}],guard:=some (8,true)}) (v:=undef) rfl (by kernel_rfl) (by kernel_rfl) (by kernel_rfl) (fun _ _ _ h=>h) (Or.inr ⟨by rfl,rfl⟩) hHeld ?_;simp only [Act.put,List.setIfInBounds_toArray,List.set_cons_zero,List.set_cons_succ];refine wpAnyH_take (i:=17) (oi:={dst:=some 22,op:=Op.pick (Operand.tmp 13) (Operand.tmp 21) (Operand.const (Value.bool false)),type:=4,pos:= "keep.go:130",after:=#[{on:=8,ground:=Ground.data},{on:=16,ground:=Ground.data}],guard:=none}) (v:=.bool false) rfl (by kernel_rfl) (by kernel_rfl) (by kernel_rfl) (fun _ _ _ h=>h) (Or.inl ⟨by rfl,?_⟩) hHeld ?_
  ·intro w hSw;unfold sj at hSw;go_simp
  simp only [Act.put,List.setIfInBounds_toArray,List.set_cons_zero,List.set_cons_succ];refine wpAnyH_take (i:=18) (oi:={dst:=some 4,op:=Op.assign (Operand.tmp 22),type:=4,pos:= "keep.go:130",after:=#[{on:=17,ground:=Ground.data},{on:=14,ground:=Ground.chain},{on:=0,ground:=Ground.phase},{on:=1,ground:=Ground.phase},{on:=2,ground:=Ground.phase},{on:=3,ground:=Ground.phase},{on:=4,ground:=Ground.phase},{on:=5,ground:=Ground.phase},{on:=6,ground:=Ground.phase},{on:=7,ground:=Ground.phase},{on:=8,ground:=Ground.phase},{on:=9,ground:=Ground.phase},{on:=10,ground:=Ground.phase},{on:=11,ground:=Ground.phase},{on:=12,ground:=Ground.phase},{on:=13,ground:=Ground.phase},{on:=14,ground:=Ground.phase},{on:=15,ground:=Ground.phase},{on:=16,ground:=Ground.phase},{on:=17,ground:=Ground.phase}],guard:=none}) (v:=.bool false) rfl (by kernel_rfl) (by kernel_rfl) (by kernel_rfl) (fun _ _ _ h=>h) (Or.inl ⟨by rfl,?_⟩) hHeld ?_
  ·intro w hSw;unfold sj at hSw;go_simp
  simp only [Act.put,List.setIfInBounds_toArray,List.set_cons_zero,List.set_cons_succ];refine wpAnyH_done (by kernel_rfl) ?_ _;refine NoPanic.normal ?_;go_wp2;go_ret;exact ⟨by first | rw [hx0];rfl | rfl,hF1⟩
def gw (A:List ee)(i:Int):Nat->Int->Bool
 | 0,_=>false
 | k+1,j=>match A[j.toNat]? with
  | none=>false
  | some a=>if a.parent<0 then false else if fu A a.parent a.place<0 then false else if fu A a.parent a.place=i then true else gw A i k (fu A a.parent a.place)
theorem bz6 {n:Nat}{o:Option Nat}(h:∀k,o=some k->k<n):-1<=av1 o/\av1 o<n:=by
 cases o with
 | none=>exact ⟨Int.le_refl _,by show (-1:Int)<n;omega⟩
 | some k=>have:=h k rfl;exact ⟨by show (-1:Int)<=k;omega,by show (k:Int)<n;omega⟩
theorem bx0 (A:List ee)(nd ix:Int):-1<=fu A nd ix/\fu A nd ix<A.length:=by
 refine bz6 fun k hk=>?_
 have:=List.findIdx?_eq_some_iff_getElem.1 hk;exact this.1
theorem w7 {P:Program}{f:FuncId}{args:Array Value}{w:World}{n:Nat}{v:Value}(h:Calls P f args (w.drewN n) fun e w'=>e=.returned v/\w'=w.drewN n):Calls P f args (w.drewN n) fun e w'=>e=.returned v/\∃m,w'=w.drewN m:=
 h.mono fun _ _ ⟨a,b⟩=>⟨a,n,b⟩
theorem ak1 (A:List ee)(v:Value)(i j:Nat)(w:World)(hn:A.length<=1000000)(hr:jx w ee.vals 10 v A)(hi:i<A.length)(hj:j<A.length):
 Calls Tryd.prog 39 #[v,.int .i64 i,.int .i64 j] w fun e w'=>e=.returned (.bool (gw A i (A.length+1) j))/\∃m,w'=w.drewN m:=by
 have hfi:∀m n nd ix,Calls Tryd.prog 20 #[v,.int .i64 nd,.int .i64 ix] ((w.drewN m).drewN n) fun e w'=>e=.returned (.int .i64 (fu A nd ix))/\w'=(w.drewN m).drewN n:=fun m n nd ix=>oj A v nd ix ((w.drewN m).drewN n) hn ((hr.drewN m).drewN n)
 obtain ⟨P,cap,rfl,hA⟩:=hr;obtain ⟨g,rfl,hc⟩:=hA (by omega);clear hA;obtain ⟨ans,hans⟩:∃ans,Hid (gw A i (A.length+1) j=ans):=⟨_,rfl⟩;rw [hans.out];go_enter Tryd.func39,Tryd.ntmps39
 go_wp2;go_loopw [2,7] (fun jv sv w'=>∃s k m:Nat,s<=A.length+1/\sv=.int .i64 s/\k<A.length/\jv=.int .i64 k/\gw A i (A.length+1-s) k=ans/\w'=w.drewN m) (fun _ sv _=>A.length+1-(intOf sv).toNat)
 case atStart=>exact ⟨0,j,0,by omega,rfl,hj,rfl,hans.out,rfl⟩
 case round=>
  obtain ⟨s,k,m,hs,rfl,hk,rfl,hab,rfl⟩:=hrel;by_cases hlt:s<=A.length
  ·have he:=mr hc k hk;obtain ⟨_,_,_,_,_,_,_,_,h8,h9⟩:=he;have h8:=ah h8 m;have h9:=ah h9 m;have e1:A.length+1-s=(A.length-s)+1:=by omega
   have hab2:Hid (gw A i (A.length-s+1) k=ans):=by rw [<- hab,e1];rfl
   have hfk:=bx0 A A[k].parent A[k].place;have hq:=fun n=>hfi m n A[k].parent A[k].place
   have hfin:∀x,∃m',(w.drewN m).drewN x=w.drewN m':=fun x=>⟨m+x,o9 w m x⟩
   have hfin0:∃m',w.drewN m=w.drewN m':=⟨m,rfl⟩;generalize w.drewN m=W at h8 h9 hq hfin hfin0 ⊢;clear hab hc hfi hans;by_cases hp:A[k].parent<0
   ·have ha:ans=false:=by rw [<- hab2.out];simp [gw,List.getElem?_eq_getElem hk,hp]
    clear hab2;go_wp2;go_ret;exact ⟨by first | rfl | (rw [ha];rfl),hfin0⟩
   ·have ha:(if fu A A[k].parent A[k].place<0 then false else if fu A A[k].parent A[k].place=i then true else gw A i (A.length-s) (fu A A[k].parent A[k].place))=ans:=by rw [<- hab2.out];simp [gw,List.getElem?_eq_getElem hk,hp]
    generalize fu A A[k].parent A[k].place=f at ha hfk hq;clear hab2;by_cases hf0:f<0
    ·have ha2:ans=false:=by rw [<- ha];simp [hf0]
     clear ha;go_wp2_with fail
     go_quiet ((go_at_call 20;exact w7 (hq _)))
     go_wp2;go_ret;exact ⟨by first | rfl | (rw [ha2];rfl),hfin _⟩
    ·obtain ⟨f,rfl⟩:=Int.eq_ofNat_of_zero_le (by omega:0<=f);by_cases hfi:f=i
     ·have ha2:ans=true:=by rw [<- ha];simp [hfi]
      clear ha;subst hfi;go_wp2_with fail
      go_quiet ((go_at_call 20;exact w7 (hq _)))
      go_wp2;go_ret;exact ⟨by first | rfl | (rw [ha2];rfl),hfin _⟩
     ·have ha2:Hid (gw A i (A.length-s) f=ans):=by
       show _=_;rw [<- ha,if_neg (by omega),if_neg (by omega)]
      clear ha;have hfi2:¬(f:Int)=i:=by omega
      go_wp2_with fail
      go_quiet ((go_at_call 20;exact w7 (hq _)))
      go_wp2;obtain ⟨m',hm'⟩:=hfin _;exact ⟨⟨s+1,f,m',by omega,by go_num,by omega,rfl,by rw [show A.length+1-(s+1)=A.length-s by omega];exact ha2.out,hm'⟩,by simp [intOf];omega⟩
  ·have ha:ans=false:=by rw [<- hab,show A.length+1-s=0 by omega];rfl
   clear hab hans;go_wp2;go_ret;exact ⟨by first | rfl | (rw [ha];rfl),m,rfl⟩
structure bi5 (A:List ee):Prop where
 rng:∀i (hi:i<A.length),0<=A[i].base/\A[i].base<=1024/\0<=A[i].bits/\A[i].bits<=10/\0<=A[i].mark/\A[i].mark<=1024
 up:∀i (hi:i<A.length),0<=A[i].parent->∃p:Nat,∃hp:p<A.length,p<i/\fu A A[i].parent A[i].place=p/\
  ((A[p].ty=1/\A[p].base<=A[i].base/\A[i].base+pw A[i].bits.toNat<=A[p].base+A[p].mark/\A[p].mark<=pw A[p].bits.toNat)\/
    (A[p].ty≠1/\A[p].ty=A[i].ty/\A[p].base=A[i].base/\A[p].bits=A[i].bits/\(A[p].badge=0\/A[p].badge=A[i].badge)))
theorem jx.fr {α:Type}{w w':World}{f:α->List Value}{k:Nat}{v:Value}{L:List α}(h:jx w f k v L)(hf:Fr w w' (fun _=>False)):jx w' f k v L:=by
 obtain ⟨A,cap,e,hA⟩:=h;refine ⟨A,cap,e,fun h0=>?_⟩
 obtain ⟨g,e2,hc⟩:=hA h0;exact ⟨g,e2,fun i hi j x hx=>hf.cell (hc i hi j x hx) id⟩
theorem a11 (A:List ee)(v:Value)(w:World)(hn:A.length<=1000000)(hr:jx w ee.vals 10 v A)(hW:bi5 A):
 Calls Tryd.prog 33 #[v] w fun e w'=>e=.returned (.bool true)/\Fr w w' (fun _=>False):=by
 have hfi:∀W n nd ix,Fr w W (fun _=>False)->Calls Tryd.prog 20 #[v,.int .i64 nd,.int .i64 ix] (W.drewN n) fun e w'=>e=.returned (.int .i64 (fu A nd ix))/\w'=W.drewN n:=fun W n nd ix hf=>oj A v nd ix (W.drewN n) hn ((hr.fr hf).drewN n)
 obtain ⟨P,cap,rfl,hA⟩:=hr;go_enter Tryd.func33,Tryd.ntmps33
 go_wp2;go_loopw [3] (fun iv w'=>∃i:Nat,i<=A.length/\iv=.int .i64 i/\Fr w w' (fun _=>False)) (fun iv _=>A.length-(intOf iv).toNat)
 case atStart=>exact ⟨0,Nat.zero_le _,rfl,Fr.refl _ _⟩
 case round=>
  obtain ⟨i,hi,rfl,hf⟩:=hrel;by_cases hlt:i<A.length
  ·obtain ⟨g,rfl,hc⟩:=hA (by omega);have he:=mr hc i hlt;by_cases hp:A[i].parent<0
   ·have h8:=hf.cell he.c8 id;clear hc hA he hfi hW;go_wp2;exact ⟨⟨i+1,by omega,by go_num,hf⟩,by simp [intOf];omega⟩
   ·obtain ⟨p,hpl,hpi,hfp,hcs⟩:=hW.up i hlt (by omega);have hep:=mr hc p hpl;obtain ⟨ra0,ra1,ra2,ra3,ra4,ra5⟩:=hW.rng p hpl;obtain ⟨rb0,rb1,rb2,rb3,rb4,rb5⟩:=hW.rng i hlt;have hq:=fun n=>hfi _ n A[i].parent A[i].place hf
    rw [hfp] at hq;have x8:=hf.cell he.c8 id;have x9:=hf.cell he.c9 id;have x2:=hf.cell he.c2 id;have x3:=hf.cell he.c3 id;have x4:=hf.cell he.c4 id;have x5:=hf.cell he.c5 id;have x6:=hf.cell he.c6 id;have x7:=hf.cell he.c7 id;have y2:=hf.cell hep.c2 id;have y3:=hf.cell hep.c3 id;have y4:=hf.cell hep.c4 id;have y5:=hf.cell hep.c5 id;have y6:=hf.cell hep.c6 id;have y7:=hf.cell hep.c7 id;clear he hep hc hA hfi hW hfp;generalize A[i].parent=b8 at *
    generalize A[i].place=b9 at *
    generalize A[i].ty=bt at *
    generalize A[i].base=bb at *
    generalize A[i].bits=bn at *
    generalize A[i].rights=br at *
    generalize A[i].badge=bg at *
    generalize A[i].mark=bm at *
    generalize A[p].ty=at_ at *
    generalize A[p].base=ab at *
    generalize A[p].bits=an at *
    generalize A[p].rights=ar at *
    generalize A[p].badge=ag at *
    generalize A[p].mark=am at *
    go_wp2_with fail
    go_quiet ((go_at_call 20;exact w7 (hq _)))
    clear hq;have hfW:Fr w (wr.drewN nq) (fun _=>False):=Fr.drewN hf nq;replace x2:=ah x2 nq;replace x3:=ah x3 nq;replace x4:=ah x4 nq;replace x5:=ah x5 nq;replace x6:=ah x6 nq;replace x7:=ah x7 nq;replace y2:=ah y2 nq;replace y3:=ah y3 nq;replace y4:=ah y4 nq;replace y5:=ah y5 nq;replace y6:=ah y6 nq;replace y7:=ah y7 nq;generalize wr.drewN nq=W at hfW x2 x3 x4 x5 x6 x7 y2 y3 y4 y5 y6 y7 ⊢;clear hf x8 x9;have hgW:=World.block_lt_of_cell? _ _ x2;simp only at hgW;go_upto_region 10 with fail
    obtain ⟨hf2,hsz,hba,hbb⟩:=m6 (w:=W) (a:=.cells #[.int .i64 at_,.int .i64 ab,.int .i64 an,.int .i64 ar,.int .i64 ag,.int .i64 am] 51) (b:=.cells #[.int .i64 bt,.int .i64 bb,.int .i64 bn,.int .i64 br,.int .i64 bg,.int .i64 bm] 51) rfl;have hF:=hfW.step hf2 (fun _=>False.elim);clear x2 x3 x4 x5 x6 x7 y2 y3 y4 y5 y6 y7 hsz;generalize (W.alloc _).alloc _=W2 at hf2 hba hbb hF ⊢;obtain ⟨a0,a1,a2,a3,a4,a5⟩:=bj hba;obtain ⟨e0,e1,e2,e3,e4,e5⟩:=bj hbb;generalize W.heap.size+1=Bb at hbb e0 e1 e2 e3 e4 e5 ⊢;generalize W.heap.size=Ba at hba a0 a1 a2 a3 a4 a5 ⊢;rcases hcs with ⟨rfl,u1,u2,u3⟩ | ⟨hne,rfl,rfl,rfl,hbg⟩
    ·have ks:∀T B N R G M W,(N=an\/N=bn)->Calls Tryd.prog 55 #[.agg #[.int .i64 T,.int .i64 B,.int .i64 N,.int .i64 R,.int .i64 G,.int .i64 M]] W fun e w'=>e=.returned (.int .i64 (pw N.toNat))/\Fr W w' (fun _=>False):=fun T B N R G M W hN=>ac9 T B N R G M W (by omega) (by omega)
     have hp1:=vi an.toNat (by omega);have hp2:=gy an.toNat;have hp3:=vi bn.toNat (by omega);have hp4:=gy bn.toNat;obtain ⟨qa,hqa⟩:∃q,Hid (pw an.toNat=q):=⟨_,rfl⟩;obtain ⟨qb,hqb⟩:∃q',Hid (pw bn.toNat=q'):=⟨_,rfl⟩;rw [hqa.out] at hp1 hp2 u3;rw [hqb.out] at hp3 hp4 u2;have d1:decide (bb<ab)=false:=by simpa using u1
     have d2:decide (IntKind.i64.wrap (ab+am)<IntKind.i64.wrap (bb+qb))=false:=by rw [l_ _ (by omega) (by omega),l_ _ (by omega) (by omega)];simpa using u2
     have d3:decide (qa<am)=false:=by simpa using u3
     have hstep:i+1<=A.length:=by omega
     clear u1 u2 u3 hp1 hp2 hp3 hp4 rb0 rb1 rb2 rb3 rb4 rb5 ra0 ra1 ra2 ra3 ra4 ra5 hgW hf2 hfW hp;go_upto_region 11 with fail
     go_region_held3 (fun w'=>(w'.cell? ⟨Ba,0,none⟩=some (.int .i64 1)/\w'.cell? ⟨Ba,1,none⟩=some (.int .i64 ab)/\w'.cell? ⟨Ba,2,none⟩=some (.int .i64 an)/\w'.cell? ⟨Ba,3,none⟩=some (.int .i64 ar)/\w'.cell? ⟨Ba,4,none⟩=some (.int .i64 ag)/\w'.cell? ⟨Ba,5,none⟩=some (.int .i64 am))/\(w'.cell? ⟨Bb,0,none⟩=some (.int .i64 bt)/\w'.cell? ⟨Bb,1,none⟩=some (.int .i64 bb)/\w'.cell? ⟨Bb,2,none⟩=some (.int .i64 bn)/\w'.cell? ⟨Bb,3,none⟩=some (.int .i64 br)/\w'.cell? ⟨Bb,4,none⟩=some (.int .i64 bg)/\w'.cell? ⟨Bb,5,none⟩=some (.int .i64 bm))) (go_keep)
      (first
      |(go_at_call_of 55 (Value.int .i64 bn);refine (ks _ _ _ _ _ _ _ (by first | exact .inl rfl | exact .inr rfl)).mono ?_;rw [hqb.out];rintro e W3 ⟨rfl,hf3⟩;have hF3:=hF.drew.step hf3 (fun _=>False.elim);obtain ⟨a0',a1',a2',a3',a4',a5'⟩:=bj (hf3.same hba id);obtain ⟨e0',e1',e2',e3',e4',e5'⟩:=bj (hf3.same hbb id);have hba1:=hf3.same hba id;have hbb1:=hf3.same hbb id)
      |(go_at_call_of 55 (Value.int .i64 an);refine (ks _ _ _ _ _ _ _ (by first | exact .inl rfl | exact .inr rfl)).mono ?_;rw [hqa.out];rintro e W4 ⟨rfl,hf4⟩;have hF4:=hF3.step hf4 (fun _=>False.elim);obtain ⟨x0,x1,x2,x3,x4,x5⟩:=bj (hf4.same hba1 id);obtain ⟨y0,y1,y2,y3,y4,y5⟩:=bj (hf4.same hbb1 id)))
     all_goals go_wp2
     all_goals exact ⟨⟨i+1,hstep,by go_num,hF4⟩,by simp [intOf];omega⟩
    ·rcases hbg with rfl | rfl
     ·go_wp2;exact ⟨⟨i+1,by omega,by go_num,hF⟩,by simp [intOf];omega⟩
     ·go_wp2;all_goals exact ⟨⟨i+1,by omega,by go_num,hF⟩,by simp [intOf];omega⟩
  ·go_wp2;go_ret;exact ⟨rfl,hf⟩
def ay8 (d:Int×Int):List Value:=[.int .i64 d.1,.int .i64 d.2]
def ba4 (b n b' n':Int):Prop:=b<b'+pw n'.toNat/\b'<b+pw n.toNat
instance (b n b' n':Int):Decidable (ba4 b n b' n'):=inferInstanceAs (Decidable (_/\_))
structure bx3 (A:List ee)(D:List (Int×Int)):Prop where
 rng:∀i (hi:i<A.length),0<=A[i].base/\A[i].base<=1024/\0<=A[i].bits/\A[i].bits<=10
 ap:∀i j (hi:i<A.length) (hj:j<A.length),j<i->¬ba4 A[i].base A[i].bits A[j].base A[j].bits\/(A[i].ty=A[j].ty/\A[i].base=A[j].base/\A[i].bits=A[j].bits/\A[i].ty≠1)\/
  (A[i].ty=1/\gw A i (A.length+1) j=true)\/(A[j].ty=1/\gw A j (A.length+1) i=true)
 dr:∀i (hi:i<D.length),0<=D[i].1/\D[i].1<=1024
 da:∀i j (hi:i<D.length) (hj:j<A.length),A[j].ty=1\/¬ba4 D[i].1 3 A[j].base A[j].bits
 dn:∀i j (hi:i<D.length) (hj:j<D.length),j<i->D[j].1≠D[i].1
theorem b26 {w:World}{g:Nat}{L:List (Int×Int)}(h:∀i (hi:i<L.length) j x,(ay8 L[i])[j]?=some x->w.cell? ⟨g,i*2+j,none⟩=some x)(i:Nat)(hi:i<L.length):w.cell? ⟨g,i*2,none⟩=some (.int .i64 L[i].1):=h i hi 0 _ rfl
theorem bc_ (A:List ee)(D:List (Int×Int))(v dv:Value)(w:World)(hn:A.length<=1000000)(hm:D.length<=1000000)(hr:jx w ee.vals 10 v A)(hrd:jx w ay8 2 dv D)(hW:bx3 A D):
 Calls Tryd.prog 31 #[v,dv] w fun e w'=>e=.returned (.bool true)/\Fr w w' (fun _=>False):=by
 have hab:∀W (i j:Nat),Fr w W (fun _=>False)->i<A.length->j<A.length->Calls Tryd.prog 39 #[v,.int .i64 i,.int .i64 j] W fun e w'=>e=.returned (.bool (gw A i (A.length+1) j))/\∃m,w'=W.drewN m:=fun W i j hf hi hj=>ak1 A v i j W hn (hr.fr hf) hi hj
 obtain ⟨P,cap,rfl,hA⟩:=hr;obtain ⟨P2,cap2,rfl,hD⟩:=hrd;go_enter Tryd.func31,Tryd.ntmps31
 go_wp2;go_loopw [5] (fun iv w'=>∃i:Nat,i<=A.length/\iv=.int .i64 i/\Fr w w' (fun _=>False)) (fun iv _=>A.length-(intOf iv).toNat)
 case atStart=>exact ⟨0,Nat.zero_le _,rfl,Fr.refl _ _⟩
 case round=>
  obtain ⟨i,hi,rfl,hf⟩:=hrel;by_cases hlt:i<A.length
  ·obtain ⟨g,rfl,hc⟩:=hA (by omega);have he:=mr hc i hlt;clear hA hD;go_wp2;go_loopw [6] (fun jv w'=>∃j:Nat,j<=i/\jv=.int .i64 j/\Fr w w' (fun _=>False)) (fun jv _=>i-(intOf jv).toNat)
   case atStart=>exact ⟨0,Nat.zero_le _,rfl,hf⟩
   case round=>
    obtain ⟨j,hj,rfl,hf⟩:=hrel;by_cases hlt2:j<i
    ·have hjl:j<A.length:=by omega
     have hep:=mr hc j hjl;obtain ⟨ra0,ra1,ra2,ra3⟩:=hW.rng i hlt;obtain ⟨rb0,rb1,rb2,rb3⟩:=hW.rng j hjl;have hap:=hW.ap i j hlt hjl hlt2;have x2:=hf.cell hep.c2 id;have x3:=hf.cell hep.c3 id;have x4:=hf.cell hep.c4 id;have x5:=hf.cell hep.c5 id;have x6:=hf.cell hep.c6 id;have x7:=hf.cell hep.c7 id;have y2:=hf.cell he.c2 id;have y3:=hf.cell he.c3 id;have y4:=hf.cell he.c4 id;have y5:=hf.cell he.c5 id;have y6:=hf.cell he.c6 id;have y7:=hf.cell he.c7 id;have ha1:=fun W hW=>hab W i j hW hlt hjl
     have ha2:=fun W hW=>hab W j i hW hjl hlt
     clear he hep hc hab hW;generalize A[j].ty=bt at *
     generalize A[j].base=bb at *
     generalize A[j].bits=bn at *
     generalize A[j].rights=br at *
     generalize A[j].badge=bg at *
     generalize A[j].mark=bm at *
     generalize A[i].ty=at_ at *
     generalize A[i].base=ab at *
     generalize A[i].bits=an at *
     generalize A[i].rights=ar at *
     generalize A[i].badge=ag at *
     generalize A[i].mark=am at *
     generalize gw A i (A.length+1) j=p1 at *
     generalize gw A j (A.length+1) i=p2 at *
     have km:=fun W=>ar2 at_ ab an ar ag am bt bb bn br bg bm W ra2 ra3 ra0 ra1 rb2 rb3 rb0 rb1
     have hgW:=World.block_lt_of_cell? _ _ x2;simp only at hgW;go_upto_region 9 with fail
     obtain ⟨hf2,hsz,hba,hbb⟩:=m6 (w:=wr) (a:=.cells #[.int .i64 at_,.int .i64 ab,.int .i64 an,.int .i64 ar,.int .i64 ag,.int .i64 am] 51) (b:=.cells #[.int .i64 bt,.int .i64 bb,.int .i64 bn,.int .i64 br,.int .i64 bg,.int .i64 bm] 51) rfl;have hF:=hf.step hf2 (fun _=>False.elim);clear x2 x3 x4 x5 x6 x7 y2 y3 y4 y5 y6 y7 hsz hgW;generalize (wr.alloc _).alloc _=W2 at hf2 hba hbb hF ⊢;obtain ⟨a0,a1,a2,a3,a4,a5⟩:=bj hba;obtain ⟨e0,e1,e2,e3,e4,e5⟩:=bj hbb;generalize wr.heap.size+1=Bb at hbb e0 e1 e2 e3 e4 e5 ⊢;generalize wr.heap.size=Ba at hba a0 a1 a2 a3 a4 a5 ⊢;obtain ⟨mt,hmt⟩:∃mt,Hid (decide (ba4 ab an bb bn)=mt):=⟨_,rfl⟩;have km':∀W,Calls Tryd.prog 54 #[.agg #[.int .i64 at_,.int .i64 ab,.int .i64 an,.int .i64 ar,.int .i64 ag,.int .i64 am],.agg #[.int .i64 bt,.int .i64 bb,.int .i64 bn,.int .i64 br,.int .i64 bg,.int .i64 bm]] W fun e w'=>e=.returned (.bool mt)/\Fr W w' (fun _=>False):=fun W=>by rw [<- hmt.out];exact km W
     have hmt2:¬ba4 ab an bb bn->mt=false:=fun h=>by rw [<- hmt.out];simpa using h
     clear km hmt ra0 ra1 ra2 ra3 rb0 rb1 rb2 rb3;go_upto_region 10 with (go_at_call 54;refine (km' _).mono ?_;rintro e W3 ⟨rfl,hf3⟩)
     have hF3:=hF.step hf3 (fun _=>False.elim);have z0:=hf3.cell a0 id;have z1:=hf3.cell a1 id;have z2:=hf3.cell a2 id;have z3:=hf3.cell e0 id;have z4:=hf3.cell e1 id;have z5:=hf3.cell e2 id;clear km' a0 a1 a2 a3 a4 a5 e0 e1 e2 e3 e4 e5 hba hbb hf2 hf3 hF hf;cases mt with
     | false=>
      clear hap hmt2 ha1 ha2;go_wp2;go_roundw;case rel=>exact ⟨j+1,by omega,by go_num,hF3⟩
      case measure=>simp [intOf];omega
     | true=>
      by_cases hs:at_=bt/\ab=bb/\an=bn/\at_≠1
      ·obtain ⟨rfl,rfl,rfl,h1⟩:=hs;clear hap hmt2 ha1 ha2;go_wp2;go_roundw;case rel=>exact ⟨j+1,by omega,by go_num,hF3⟩
       case measure=>simp [intOf];omega
      ·have hor:(at_=1/\p1=true)\/(bt=1/\p2=true):=by
        rcases hap with h | h | h | h
        ·cases hmt2 h
        ·exact absurd h hs
        ·exact .inl h
        ·exact .inr h
       clear hap hmt2;have hcond:Hid ((if at_=bt then if ab=bb then if an=bn then decide (at_≠1) else false else false else false)=false):=by
        show _=_;split
        ·split
         ·split
          ·rename_i q1 q2 q3;simpa using fun h=>hs ⟨q1,q2,q3,h⟩
          ·rfl
         ·rfl
        ·rfl
       go_wp2_with fail
       all_goals (refine (ha1 _ hF3).mono ?_;rintro e W4 ⟨rfl,m4,rfl⟩)
       all_goals go_upto_region 12 with fail
       all_goals go_upto_region 13 with (go_at_call 39;refine (ha2 _ (hF3.drewN m4)).mono ?_;rintro e W5 ⟨rfl,m5,rfl⟩)
       all_goals have hF5:=hF3.drewN (m4+m5)
       all_goals replace z0:=ah z0 (m4+m5)
       all_goals replace z3:=ah z3 (m4+m5)
       all_goals generalize W3.drewN (m4+m5)=W5 at hF5 z0 z3 ⊢
       all_goals clear z1 z2 z4 z5 hcond hs ha1 ha2
       all_goals rcases hor with ⟨rfl,rfl⟩ | ⟨rfl,rfl⟩
       all_goals go_wp2
       all_goals go_roundw
       all_goals first
        | exact ⟨j+1,by omega,by go_num,hF5⟩
        |(simp [intOf];omega)
    ·go_wp2;go_roundw;case rel=>exact ⟨i+1,by omega,by go_num,hf⟩
     case measure=>simp [intOf];omega
  ·clear hab;go_wp2;go_loopw [12] (fun iv w'=>∃i:Nat,i<=D.length/\iv=.int .i64 i/\Fr w w' (fun _=>False)) (fun iv _=>D.length-(intOf iv).toNat)
   case atStart=>exact ⟨0,Nat.zero_le _,rfl,hf⟩
   case round=>
    obtain ⟨i2,hi2,rfl,hf⟩:=hrel;by_cases hltd:i2<D.length
    ·obtain ⟨gd,rfl,hcd⟩:=hD (by omega);have hd0:=b26 hcd i2 hltd;obtain ⟨rd0,rd1⟩:=hW.dr i2 hltd;clear hD;go_wp2;go_loopw [13] (fun jv w'=>∃j:Nat,j<=A.length/\jv=.int .i64 j/\Fr w w' (fun _=>False)) (fun jv _=>A.length-(intOf jv).toNat)
     case atStart=>exact ⟨0,Nat.zero_le _,rfl,hf⟩
     case round=>
      obtain ⟨j,hj,rfl,hf⟩:=hrel;by_cases hlt2:j<A.length
      ·obtain ⟨g,rfl,hc⟩:=hA (by omega);have hep:=mr hc j hlt2;obtain ⟨rb0,rb1,rb2,rb3⟩:=hW.rng j hlt2;have hda:=hW.da i2 j hltd hlt2;have x2:=hf.cell hep.c2 id;have x3:=hf.cell hep.c3 id;have x4:=hf.cell hep.c4 id;have x5:=hf.cell hep.c5 id;have x6:=hf.cell hep.c6 id;have x7:=hf.cell hep.c7 id;have d0:=hf.cell hd0 id;clear hep hc hW hd0 hcd hA;generalize A[j].ty=bt at *
       generalize A[j].base=bb at *
       generalize A[j].bits=bn at *
       generalize A[j].rights=br at *
       generalize A[j].badge=bg at *
       generalize A[j].mark=bm at *
       generalize D[i2].1=dd at *
       obtain ⟨mt,hmt⟩:∃mt,Hid (decide (ba4 dd 3 bb bn)=mt):=⟨_,rfl⟩;have km':∀W,Calls Tryd.prog 54 #[.agg #[.int .i64 0,.int .i64 dd,.int .i64 3,.int .i64 0,.int .i64 0,.int .i64 0],.agg #[.int .i64 bt,.int .i64 bb,.int .i64 bn,.int .i64 br,.int .i64 bg,.int .i64 bm]] W fun e w'=>e=.returned (.bool mt)/\Fr W w' (fun _=>False):=fun W=>by rw [<- hmt.out];exact ar2 0 dd 3 0 0 0 bt bb bn br bg bm W (by decide) (by decide) rd0 rd1 rb2 rb3 rb0 rb1
       have hmt2:¬ba4 dd 3 bb bn->mt=false:=fun h=>by rw [<- hmt.out];simpa using h
       clear hmt;go_wp2_with fail
       go_region_held3 (fun w'=>w'.cell? ⟨gd,i2*2,none⟩=some (.int .i64 dd)/\w'.cell? ⟨g,j*10+2,none⟩=some (.int .i64 bt)/\w'.cell? ⟨g,j*10+3,none⟩=some (.int .i64 bb)/\w'.cell? ⟨g,j*10+4,none⟩=some (.int .i64 bn)/\w'.cell? ⟨g,j*10+5,none⟩=some (.int .i64 br)/\w'.cell? ⟨g,j*10+6,none⟩=some (.int .i64 bg)/\w'.cell? ⟨g,j*10+7,none⟩=some (.int .i64 bm)) (go_keep)
        ((go_at_call 54;refine (km' _).mono ?_;rintro e W3 ⟨rfl,hf3⟩;have hF3:=hf.drew.step hf3 (fun _=>False.elim);have y2:=hf3.cell (a:=⟨g,j*10+2,none⟩) x2 id;have y3:=hf3.cell (a:=⟨g,j*10+3,none⟩) x3 id;have y4:=hf3.cell (a:=⟨g,j*10+4,none⟩) x4 id;have y5:=hf3.cell (a:=⟨g,j*10+5,none⟩) x5 id;have y6:=hf3.cell (a:=⟨g,j*10+6,none⟩) x6 id;have y7:=hf3.cell (a:=⟨g,j*10+7,none⟩) x7 id;have yd:=hf3.cell (a:=⟨gd,i2*2,none⟩) d0 id))
       all_goals clear x2 x3 x4 x5 x6 x7 d0 hf hf3 km' y3 y4 y5 y6 y7 yd
       all_goals rcases hda with rfl | hda
       all_goals first
        |(cases hmt2 hda
          go_wp2;go_roundw;case rel=>exact ⟨j+1,by omega,by go_num,hF3⟩
          case measure=>simp [intOf];omega)
        |(clear hmt2
          cases mt
          all_goals go_wp2
          all_goals go_roundw
          all_goals first
           | exact ⟨j+1,by omega,by go_num,hF3⟩
           |(simp [intOf];omega))
      ·clear hA;go_wp2;go_loopw [15] (fun jv w'=>∃j:Nat,j<=i2/\jv=.int .i64 j/\Fr w w' (fun _=>False)) (fun jv _=>i2-(intOf jv).toNat)
       case atStart=>exact ⟨0,Nat.zero_le _,rfl,hf⟩
       case round=>
        obtain ⟨k,hk,rfl,hf⟩:=hrel;by_cases hlt3:k<i2
        ·have hkl:k<D.length:=by omega
         have q0:=hf.cell (b26 hcd k hkl) id;have q1:=hf.cell hd0 id;have hne:=hW.dn i2 k hltd hkl hlt3;clear hW hcd hd0;generalize D[i2].1=d1 at *
         generalize D[k].1=d2 at *
         go_wp2_with fail
         go_quiet (fail)
         go_wp2;go_roundw;case rel=>exact ⟨k+1,by omega,by go_num,hf.drewN _⟩
         case measure=>simp [intOf];omega
        ·go_wp2;go_roundw;case rel=>exact ⟨i2+1,by omega,by go_num,hf⟩
         case measure=>simp [intOf];omega
    ·go_wp2;go_ret;exact ⟨rfl,hf⟩
def orI (a b:Int):Int:=Go.bits BinOp.or IntKind.i64 a b
def li (a b:Int):Int:=Go.bits BinOp.andNot IntKind.i64 a b
def ik (ty b:Int)(a:ee):Bool:=a.ty==ty && a.base==b
def orA (A:List ee)(ty b:Int):Nat->Int
 | 0=>0
 | k+1=>match A[k]? with
  | some a=>if ik ty b a then orI (orA A ty b k) a.rights else orA A ty b k
  | none=>orA A ty b k
def ja (A:List ee)(ty b:Int):Nat->Bool
 | 0=>false
 | k+1=>match A[k]? with
  | some a=>if ik ty b a then ja A ty b k || a.badge==0 else ja A ty b k
  | none=>ja A ty b k
def bq (A:List ee)(ty b:Int):Nat->Bool
 | 0=>false
 | k+1=>match A[k]? with
  | some a=>bq A ty b k || ik ty b a
  | none=>bq A ty b k
theorem ad6 (A:List ee)(v:Value)(t b n r g m:Int)(w:World)(hn:A.length<=1000000)(hr:jx w ee.vals 10 v A):
 Calls Tryd.prog 56 #[v,.agg #[.int .i64 t,.int .i64 b,.int .i64 n,.int .i64 r,.int .i64 g,.int .i64 m]] w fun e w'=>e=.returned (.tuple #[.int .i64 (orA A t b A.length),.bool (ja A t b A.length)])/\Fr w w' (fun _=>False):=by
 obtain ⟨P,cap,rfl,hA⟩:=hr;have hf:=(Fr.refl w (fun _=>False)).alloc (.cells #[.int .i64 t,.int .i64 b,.int .i64 n,.int .i64 r,.int .i64 g,.int .i64 m] 51);have hb:=heap_alloc_new w (.cells #[.int .i64 t,.int .i64 b,.int .i64 n,.int .i64 r,.int .i64 g,.int .i64 m] 51);go_enter Tryd.func56,Tryd.ntmps56
 go_wp2;generalize w.alloc _=W at hf hb ⊢;have b0:=aa (o:=0) hb rfl;have b1:=aa (o:=1) hb rfl;generalize w.heap.size=Bx at hb b0 b1 ⊢;clear hb;go_loopw [6,7,8] (fun rv bv iv w'=>∃i m:Nat,i<=A.length/\rv=.int .i64 (orA A t b i)/\bv=.bool (ja A t b i)/\iv=.int .i64 i/\w'=W.drewN m) (fun _ _ iv _=>A.length-(intOf iv).toNat)
 case atStart=>exact ⟨0,0,Nat.zero_le _,rfl,rfl,rfl,rfl⟩
 case round=>
  obtain ⟨i,mm,hi,rfl,rfl,rfl,rfl⟩:=hrel;have hfW:=hf.drewN mm;by_cases hlt:i<A.length
  ·obtain ⟨g',rfl,hc⟩:=hA (by omega);have he:=mr hc i hlt;have x2:=ah (hf.cell he.c2 id) mm;have x3:=ah (hf.cell he.c3 id) mm;have x5:=ah (hf.cell he.c5 id) mm;have x6:=ah (hf.cell he.c6 id) mm;have c0:=ah b0 mm;have c1:=ah b1 mm;have hfin:∀x,∃m',(W.drewN mm).drewN x=W.drewN m':=fun x=>⟨mm+x,o9 W mm x⟩
   have hS:Hid (orA A t b (i+1)=if ik t b A[i] then orI (orA A t b i) A[i].rights else orA A t b i):=by show _=_;simp [orA,hlt]
   have hT:Hid (ja A t b (i+1)=if ik t b A[i] then ja A t b i || A[i].badge==0 else ja A t b i):=by show _=_;simp [ja,hlt]
   clear he hc hA b0 b1;generalize W.drewN mm=W2 at x2 x3 x5 x6 c0 c1 hfin ⊢;generalize orA A t b i=R0 at hS ⊢;generalize ja A t b i=B0 at hT ⊢;cases hs:ik t b A[i] with
   | true=>
    have hs2:=hs;simp only [ik,Bool.and_eq_true,beq_iff_eq] at hs2;rw [hs2.1] at x2;rw [hs2.2] at x3;generalize A[i].rights=ri at *
    generalize A[i].badge=gi at *
    go_wp2_with fail
    go_quiet (fail)
    have hor:Hid (orI R0 ri=Go.bits BinOp.or IntKind.i64 R0 ri):=rfl;replace x5:=ah x5 nq;replace x6:=ah x6 nq;obtain ⟨m',hm'⟩:=hfin nq;rw [hm'] at x5 x6 ⊢;cases B0 with
    | true=>
     go_wp2;exact ⟨⟨i+1,m',by omega,by rw [hS.out,hs];rfl,by rw [hT.out,hs];rfl,by go_num,rfl⟩,by simp [intOf];omega⟩
    | false=>
     by_cases hg0:gi=0
     ·subst hg0;go_wp2;exact ⟨⟨i+1,m',by omega,by rw [hS.out,hs];rfl,by rw [hT.out,hs];rfl,by go_num,rfl⟩,by simp [intOf];omega⟩
     ·have hg1:(gi==0)=false:=by simpa using hg0
      go_wp2;exact ⟨⟨i+1,m',by omega,by rw [hS.out,hs];rfl,by rw [hT.out,hs,if_pos rfl,hg1];rfl,by go_num,rfl⟩,by simp [intOf];omega⟩
   | false=>
    have hs2:¬(A[i].ty=t/\A[i].base=b):=fun h=>by simp [ik,h.1,h.2] at hs
    have hS2:orA A t b (i+1)=R0:=by rw [hS.out,hs];rfl
    have hT2:ja A t b (i+1)=B0:=by rw [hT.out,hs];rfl
    clear hS hT x5 x6;generalize A[i].ty=ty at *
    generalize A[i].base=ba at *
    by_cases h1:ty=t
    ·have h2:¬ba=b:=fun e=>hs2 ⟨h1,e⟩
     subst h1;go_wp2_with fail
     go_quiet (fail)
     obtain ⟨m',hm'⟩:=hfin nq;go_wp2;exact ⟨⟨i+1,m',by omega,by rw [hS2],by rw [hT2],by go_num,by first | rfl | exact hm'⟩,by simp [intOf];omega⟩
    ·go_wp2_with fail
     go_quiet (fail)
     obtain ⟨m',hm'⟩:=hfin nq;go_wp2;exact ⟨⟨i+1,m',by omega,by rw [hS2],by rw [hT2],by go_num,by first | rfl | exact hm'⟩,by simp [intOf];omega⟩
  ·have hk:i=A.length:=by omega
   subst hk;go_wp2;go_ret2;exact ⟨rfl,hfW⟩
def au7 (B A:List ee):Prop:=∀i (hi:i<A.length),bq B A[i].ty A[i].base B.length=true->
 li (orA A A[i].ty A[i].base A.length) (orA B A[i].ty A[i].base B.length)=0/\(ja A A[i].ty A[i].base A.length=true->ja B A[i].ty A[i].base B.length=true)
theorem a31 (B A:List ee)(vb va:Value)(w:World)(hn:A.length<=1000000)(hm:B.length<=1000000)(hrb:jx w ee.vals 10 vb B)(hra:jx w ee.vals 10 va A)(hN:au7 B A):
 Calls Tryd.prog 34 #[vb,va] w fun e w'=>e=.returned (.bool true)/\Fr w w' (fun _=>False):=by
 have rB:∀t b n r g m W,Fr w W (fun _=>False)->Calls Tryd.prog 56 #[vb,.agg #[.int .i64 t,.int .i64 b,.int .i64 n,.int .i64 r,.int .i64 g,.int .i64 m]] W fun e w'=>e=.returned (.tuple #[.int .i64 (orA B t b B.length),.bool (ja B t b B.length)])/\Fr W w' (fun _=>False):=fun t b n r g m W hf=>ad6 B vb t b n r g m W hm (hrb.fr hf)
 have rA:∀t b n r g m W,Fr w W (fun _=>False)->Calls Tryd.prog 56 #[va,.agg #[.int .i64 t,.int .i64 b,.int .i64 n,.int .i64 r,.int .i64 g,.int .i64 m]] W fun e w'=>e=.returned (.tuple #[.int .i64 (orA A t b A.length),.bool (ja A t b A.length)])/\Fr W w' (fun _=>False):=fun t b n r g m W hf=>ad6 A va t b n r g m W hn (hra.fr hf)
 obtain ⟨PB,capB,rfl,hB⟩:=hrb;obtain ⟨PA,capA,rfl,hA⟩:=hra;go_enter Tryd.func34,Tryd.ntmps34
 go_wp2;go_loopw [5] (fun iv w'=>∃i:Nat,i<=A.length/\iv=.int .i64 i/\Fr w w' (fun _=>False)) (fun iv _=>A.length-(intOf iv).toNat)
 case atStart=>exact ⟨0,Nat.zero_le _,rfl,Fr.refl _ _⟩
 case round=>
  obtain ⟨i,hi,rfl,hf⟩:=hrel;by_cases hlt:i<A.length
  ·obtain ⟨g,rfl,hc⟩:=hA (by omega);have he:=mr hc i hlt;have hNi:=hN i hlt;clear hA hN;obtain ⟨_,_,y2,y3,y4,y5,y6,y7,_,_⟩:=he;clear hc;generalize A[i].ty=at_ at *
   generalize A[i].base=ab at *
   generalize A[i].bits=an at *
   generalize A[i].rights=ar at *
   generalize A[i].badge=ag at *
   generalize A[i].mark=am at *
   have x2:=hf.cell y2 id;have x3:=hf.cell y3 id;have x4:=hf.cell y4 id;have x5:=hf.cell y5 id;have x6:=hf.cell y6 id;have x7:=hf.cell y7 id;have k1:=rB at_ ab an ar ag am;have k2:=rA at_ ab an ar ag am;clear rA rB;generalize hoA:orA A at_ ab A.length=oA at *
   generalize hoB:orA B at_ ab B.length=oB at *
   generalize hbA:ja A at_ ab A.length=bA at *
   generalize hbB:ja B at_ ab B.length=bB at *
   clear hoA hoB hbA hbB;go_upto_region 5 with (go_at_call 56;refine (k1 _ hf).mono ?_;rintro e W3 ⟨rfl,hf3⟩)
   have hF3:=hf.step hf3 (fun _=>False.elim);replace x2:=hf3.cell x2 id;replace x3:=hf3.cell x3 id;replace x4:=hf3.cell x4 id;replace x5:=hf3.cell x5 id;replace x6:=hf3.cell x6 id;replace x7:=hf3.cell x7 id;go_upto_region 6 with (go_at_call 56;refine (k2 _ hF3).mono ?_;rintro e W4 ⟨rfl,hf4⟩)
   have hF4:=hF3.step hf4 (fun _=>False.elim);clear x2 x3 x4 x5 x6 x7 k1 k2;go_wp2;go_loopw [10,11] (fun tv jv w'=>∃j m:Nat,j<=B.length/\tv=.bool (bq B at_ ab j)/\jv=.int .i64 j/\w'=W4.drewN m) (fun _ jv _=>B.length-(intOf jv).toNat)
   case atStart=>exact ⟨0,0,Nat.zero_le _,rfl,rfl,rfl⟩
   case round=>
    obtain ⟨j,mm,hj,rfl,rfl,rfl⟩:=hrel;by_cases hlt2:j<B.length
    ·obtain ⟨gb,rfl,hcb⟩:=hB (by omega);have hbr:=mr hcb j hlt2;have u2:=ah (hF4.cell hbr.c2 id) mm;have u3:=ah (hF4.cell hbr.c3 id) mm;have v2:=ah (hF4.cell y2 id) mm;have v3:=ah (hF4.cell y3 id) mm;have hfin:∀x,∃m',(W4.drewN mm).drewN x=W4.drewN m':=fun x=>⟨mm+x,o9 W4 mm x⟩
     have hfin0:∃m',W4.drewN mm=W4.drewN m':=⟨mm,rfl⟩;have hT:Hid (bq B at_ ab (j+1)=(bq B at_ ab j || ik at_ ab B[j])):=by show _=_;simp [bq,hlt2]
     clear hB hcb hbr;generalize W4.drewN mm=W5 at u2 u3 v2 v3 hfin hfin0 ⊢;generalize bq B at_ ab j=t0 at hT ⊢;have hsm:ik at_ ab B[j]=(B[j].ty==at_ && B[j].base==ab):=rfl;rw [hsm] at hT;generalize B[j].ty=bt at *
     generalize B[j].base=bb at *
     cases t0 with
     | true=>
      have hT2:bq B at_ ab (j+1)=true:=by rw [hT.out];rfl
      clear hT hsm;go_wp2_with fail
      go_quiet (fail)
      obtain ⟨m',hm'⟩:=hfin nq;go_wp2;go_roundw;case rel=>exact ⟨j+1,m',by omega,by rw [hT2],by go_num,by first | rfl | exact hm'⟩
      case measure=>simp [intOf];omega
     | false=>
      by_cases h1:bt=at_
      ·by_cases h2:bb=ab
       ·have hT2:bq B at_ ab (j+1)=true:=by rw [hT.out,h1,h2];simp
        clear hT hsm;subst h1 h2;go_wp2_with fail
        go_quiet (fail)
        obtain ⟨m',hm'⟩:=hfin nq;go_wp2;go_roundw;case rel=>exact ⟨j+1,m',by omega,by rw [hT2],by go_num,by first | rfl | exact hm'⟩
        case measure=>simp [intOf];omega
       ·have hT2:bq B at_ ab (j+1)=false:=by rw [hT.out];simp [h2]
        clear hT hsm;subst h1;go_wp2_with fail
        go_quiet (fail)
        obtain ⟨m',hm'⟩:=hfin nq;go_wp2;go_roundw;case rel=>exact ⟨j+1,m',by omega,by rw [hT2]<;>simp [h2],by go_num,by first | rfl | exact hm'⟩
        case measure=>simp [intOf];omega
      ·have hT2:bq B at_ ab (j+1)=false:=by rw [hT.out];simp [h1]
       clear hT hsm;go_wp2_with fail
       go_quiet (fail)
       obtain ⟨m',hm'⟩:=hfin nq;go_wp2;go_roundw;case rel=>exact ⟨j+1,m',by omega,by rw [hT2],by go_num,by first | rfl | exact hm'⟩
       case measure=>simp [intOf];omega
    ·have hk:j=B.length:=by omega
     subst hk;generalize bq B at_ ab B.length=t0 at *
     have hF5:=hF4.drewN mm;unfold li at hNi;cases t0 with
     | false=>
      clear hNi;go_wp2;go_roundw;case rel=>exact ⟨i+1,by omega,by go_num,hF5⟩
      case measure=>simp [intOf];omega
     | true=>
      obtain ⟨hN1,hN2⟩:=hNi rfl;cases bA with
      | false=>
       clear hN2;go_wp2;go_roundw;case rel=>exact ⟨i+1,by omega,by go_num,hF5⟩
       case measure=>simp [intOf];omega
      | true=>
       have hbB:bB=true:=hN2 rfl;clear hN2;subst hbB;go_wp2;go_roundw;case rel=>exact ⟨i+1,by omega,by go_num,hF5⟩
       case measure=>simp [intOf];omega
  ·go_wp2;go_ret;exact ⟨rfl,hf⟩
def p9 (A:List ee)(nd:Int):Nat->Bool
 | 0=>true
 | k+1=>match A[k]? with
  | some a=>if a.ty=2/\a.base=nd then false else p9 A nd k
  | none=>p9 A nd k
structure a77 (B A:List ee)(nd ix:Int):Prop where
 top:∃p:Nat,p<B.length/\fu B nd ix=p
 row:∀i (hi:i<B.length),(0<=fu A B[i].node B[i].index/\(gw B (fu B nd ix) (B.length+1) i=false\/fu A nd ix<0))\/
  (fu A B[i].node B[i].index<0/\(gw B (fu B nd ix) (B.length+1) i=true\/p9 A B[i].node A.length=true))
theorem at2 (B A:List ee)(vb va vd:Value)(nd ix:Int)(w:World)(hn:A.length<=1000000)(hm:B.length<=1000000)(hrb:jx w ee.vals 10 vb B)(hra:jx w ee.vals 10 va A)(hE:a77 B A nd ix):
 Calls Tryd.prog 21 #[vb,va,vd,.int .i64 nd,.int .i64 ix] w fun e w'=>e=.returned (.bool true)/\∃m,w'=w.drewN m:=by
 obtain ⟨top,htl,htop⟩:=hE.top;have hrow:=hE.row;rw [htop] at hrow;have fB:=oj B vb nd ix w hm hrb;rw [htop] at fB;have fA:=oj A va nd ix w hn hra;have fR:∀m n nd ix,Calls Tryd.prog 20 #[va,.int .i64 nd,.int .i64 ix] ((w.drewN m).drewN n) fun e w'=>e=.returned (.int .i64 (fu A nd ix))/\w'=(w.drewN m).drewN n:=fun m n nd ix=>oj A va nd ix ((w.drewN m).drewN n) hn ((hra.drewN m).drewN n)
 have aB:∀m n (i:Nat),i<B.length->Calls Tryd.prog 39 #[vb,.int .i64 top,.int .i64 i] ((w.drewN m).drewN n) fun e w'=>e=.returned (.bool (gw B top (B.length+1) i))/\∃x,w'=w.drewN x:=fun m n i hi=>(ak1 B vb top i ((w.drewN m).drewN n) hm ((hrb.drewN m).drewN n) htl hi).mono fun e w' ⟨h1,x,h2⟩=>⟨h1,m+n+x,by rw [h2,o9,o9,Nat.add_assoc]⟩
 generalize fu A nd ix=tf at fA hrow;obtain ⟨PB,capB,rfl,hB⟩:=hrb;obtain ⟨PA,capA,rfl,hA⟩:=hra;obtain ⟨gb,rfl,hcb⟩:=hB (by omega);clear hB hE;go_enter Tryd.func21,Tryd.ntmps21
 go_upto_region 4 with (go_at_call 20;refine fB.mono ?_;rintro e w1 ⟨rfl,he1⟩;obtain rfl:=he1.symm)
 go_upto_region 5 with (go_at_call 20;refine fA.mono ?_;rintro e w1 ⟨rfl,he1⟩;obtain rfl:=he1.symm)
 clear fA fB;obtain ⟨th,hth⟩:∃th,Hid (decide (0<=tf)=th):=⟨_,rfl⟩;have hthd:decide (0<=tf)=th:=hth.out;have htf:tf<0->th=false:=fun h=>by rw [<- hth.out];simpa using h
 rw [hthd];clear hth hthd;go_wp2;go_loopw [13] (fun iv w'=>∃i m:Nat,i<=B.length/\iv=.int .i64 i/\w'=w.drewN m) (fun iv _=>B.length-(intOf iv).toNat)
 case atStart=>exact ⟨0,0,Nat.zero_le _,rfl,rfl⟩
 case round=>
  obtain ⟨i,mm,hi,rfl,rfl⟩:=hrel;by_cases hlt:i<B.length
  ·have he:=mr hcb i hlt;have x0:=ah he.c0 mm;have x1:=ah he.c1 mm;have y0:=he.c0;have hri:=hrow i hlt;have hq:=fun n=>fR mm n B[i].node B[i].index
   have ha:=fun n=>aB mm n i hlt
   clear he hcb hrow fR aB;generalize B[i].node=bn at *
   generalize B[i].index=bi at *
   generalize fu A bn bi=f at *
   generalize gw B top (B.length+1) i=ab at *
   generalize w.drewN mm=W at x0 x1 hq ha ⊢;go_wp2_with fail
   go_quiet ((go_at_call 20;exact w7 (hq _)))
   go_upto_region 10 with (go_at_call 39;refine (ha _).mono ?_;rintro e W6 ⟨rfl,x,hW6⟩)
   subst hW6;clear x0 x1 hq ha;rcases hri with ⟨hf0,hor⟩ | ⟨hf0,hor⟩
   ·cases ab with
    | false=>
     go_wp2;go_roundw;all_goals (first | exact ⟨i+1,x,by omega,by go_num,rfl⟩ | (simp [intOf];omega))
    | true=>
     have htf2:th=false:=by
      rcases hor with e | e
      ·cases e
      ·exact htf e
     subst htf2;go_wp2;go_roundw;all_goals (first | exact ⟨i+1,x,by omega,by go_num,rfl⟩ | (simp [intOf];omega))
   ·have hf1:¬0<=f:=by omega
    go_wp2;go_loopw [16,17] (fun lv jv w'=>∃j m:Nat,j<=A.length/\lv=.bool (p9 A bn j)/\jv=.int .i64 j/\w'=w.drewN m) (fun _ jv _=>A.length-(intOf jv).toNat)
    case atStart=>exact ⟨0,x,Nat.zero_le _,rfl,rfl,rfl⟩
    case round=>
     obtain ⟨j,m2,hj,rfl,rfl,rfl⟩:=hrel;by_cases hlt2:j<A.length
     ·obtain ⟨ga,rfl,hca⟩:=hA (by omega);have har:=mr hca j hlt2;have u2:=ah har.c2 m2;have u3:=ah har.c3 m2;have v0:=ah y0 m2;have hfin:∀x,∃m',(w.drewN m2).drewN x=w.drewN m':=fun x=>⟨m2+x,o9 w m2 x⟩
      have hT:Hid (p9 A bn (j+1)=if A[j].ty=2/\A[j].base=bn then false else p9 A bn j):=by show _=_;simp [p9,hlt2]
      clear hA hca har y0 hor;generalize w.drewN m2=W5 at u2 u3 v0 hfin ⊢;generalize p9 A bn j=t0 at hT ⊢;generalize A[j].ty=ty at *
      generalize A[j].base=ba at *
      by_cases h1:ty=2
      ·by_cases h2:ba=bn
       ·have hT2:p9 A bn (j+1)=false:=by rw [hT.out,if_pos ⟨h1,h2⟩]
        clear hT;subst h1 h2;go_wp2_with fail
        go_quiet (fail)
        obtain ⟨m',hm'⟩:=hfin nq;go_wp2;go_roundw;all_goals (first | exact ⟨j+1,m',by omega,by rw [hT2],by go_num,by first | rfl | exact hm'⟩ | (simp [intOf];omega))
       ·have hT2:p9 A bn (j+1)=t0:=by rw [hT.out,if_neg (fun h=>h2 h.2)]
        clear hT;subst h1;go_wp2_with fail
        go_quiet (fail)
        obtain ⟨m',hm'⟩:=hfin nq;go_wp2;go_roundw;all_goals (first | exact ⟨j+1,m',by omega,by rw [hT2],by go_num,by first | rfl | exact hm'⟩ | (simp [intOf];omega))
      ·have hT2:p9 A bn (j+1)=t0:=by rw [hT.out,if_neg (fun h=>h1 h.1)]
       clear hT;go_wp2_with fail
       go_quiet (fail)
       obtain ⟨m',hm'⟩:=hfin nq;go_wp2;go_roundw;all_goals (first | exact ⟨j+1,m',by omega,by rw [hT2],by go_num,by first | rfl | exact hm'⟩ | (simp [intOf];omega))
     ·have hk:j=A.length:=by omega
      subst hk;generalize p9 A bn A.length=lo at *
      cases ab with
      | true=>
       go_wp2;go_roundw;all_goals (first | exact ⟨i+1,m2,by omega,by go_num,rfl⟩ | (simp [intOf];omega))
      | false=>
       have hlo:lo=true:=by
        rcases hor with e | e
        ·cases e
        ·exact e
       subst hlo;go_wp2;go_roundw;all_goals (first | exact ⟨i+1,m2,by omega,by go_num,rfl⟩ | (simp [intOf];omega))
  ·go_wp2;go_ret;exact ⟨rfl,mm,rfl⟩
end Go.Proofs.YtdpjgflemddekaaDoor
