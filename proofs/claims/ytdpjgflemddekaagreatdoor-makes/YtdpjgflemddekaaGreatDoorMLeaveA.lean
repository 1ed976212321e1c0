/- The code: leave, whoever waits. -/
import Derived.Test.YtdpjgflemddekaaGreatDoorMIterA
set_option maxRecDepth 100000
set_option maxHeartbeats 2000000
namespace Go.Proofs.YtdpjgflemddekaaGreatDoor
open Go.RowKit Go.Conc
theorem dx.cellsOf (x:dx):x.val=.agg #[.int .i64 x.thread,.int .i64 x.value,.int .i64 x.badge]:=rfl
theorem bc_ {w:World}{c:Nat}{l:List dx}(h:lr w c l)(ty:TypeId):(Builtin.len_ #[123] ty #[.chan (some c)]).run Tryz.prog w=.ok (goInt l.length) w:=by
 obtain ⟨s,r,hc⟩:=h;simp [Builtin.len_,run_underlying Tryz.underlying123,getObj,Sem.run,hc,Result.andThen]
theorem kk (w:World)(c cap:Nat)(buf:Array Value)(cl:Bool)(s r:Nat)(tm:Bool):Fr w (w.setChan c cap buf cl s r tm) (fun k=>k=c):=
 ⟨rfl,rfl,rfl,by simp [World.setChan],fun k _ hk=>by simp only [World.setChan];rw [Array.getElem?_setIfInBounds_ne (fun e=>hk e.symm)]⟩
def rot (b:Int)(l:List dx)(i:Nat):List dx:=l.drop i++(l.take i).filter (fun w=>w.thread≠b)
theorem ar7 (c:Nat)(b:Int)(l:List dx)(w:World)(h:lr w c l)(hl:l.length<=64):
 Calls Tryz.prog 118 #[.chan (some c),.int .i64 b] w fun e w'=>e=.returned (.tuple #[])/\lr w' c (l.filter (fun w=>w.thread≠b))/\Fr w w' (fun k=>k=c):=by
 have hlen:=bc_ h;simp only [goInt] at hlen;go_enter Tryz.func118,Tryz.ntmps118
 go_wp2;clear hlen;go_loopw [7] (fun iv wr=>∃i:Nat,i<=l.length/\iv=.int .i64 i/\lr wr c (rot b l i)/\Fr w wr (fun k=>k=c)) (fun iv _=>l.length-(intOf iv).toNat)
 case atStart=>exact ⟨0,Nat.zero_le _,rfl,by simpa [rot] using h,Fr.refl _ _⟩
 case round=>
  obtain ⟨i,hi,rfl,hc,hf⟩:=hrel;by_cases hlt:i<l.length
  ·obtain ⟨s,r,hcc⟩:=hc;have hclt:=(Array.getElem?_eq_some_iff.1 hcc).1;obtain ⟨x,hx⟩:∃x,l[i]=x:=⟨_,rfl⟩;have hrot:rot b l i=x :: (l.drop (i+1)++(l.take i).filter (fun w=>w.thread≠b)):=by
    unfold rot;rw [List.drop_eq_getElem_cons hlt,hx];rfl
   obtain ⟨M,hM⟩:∃M,l.drop (i+1)++(l.take i).filter (fun w=>w.thread≠b)=M:=⟨_,rfl⟩;have hMl:M.length<=63:=by
    rw [<- hM];have:=List.length_filter_le (fun w:dx=>decide (w.thread≠b)) (l.take i)
    simp only [List.length_append,List.length_drop,List.length_take] at this ⊢;omega
   have hnext:rot b l (i+1)=if x.thread≠b then M++[x] else M:=by
    unfold rot;rw [List.take_succ_eq_append_getElem hlt,List.filter_append,hx,<- List.append_assoc,hM];by_cases e:x.thread=b
    ·simp [e]
    ·simp [e]
   rw [hM] at hrot;rw [hrot] at hcc;have hg0:(List.map dx.val (x :: M)).toArray.getD 0 undef=.agg #[.int .i64 x.thread,.int .i64 x.value,.int .i64 x.badge]:=by simp [dx.val]
   have hex:(List.map dx.val (x :: M)).toArray.extract 1 (List.map dx.val (x :: M)).toArray.size=(M.map dx.val).toArray:=by simp;exact List.take_of_length_le (by simp)
   have hc2:=heap_setChan wr c 64 (M.map dx.val).toArray false s (r+1) false hclt;have hf2:=kk wr c 64 (M.map dx.val).toArray false s (r+1) false;have hF2:Fr w (wr.setChan c 64 (M.map dx.val).toArray false s (r+1) false) (fun k=>k=c):=hf.step hf2 (fun k e=>.inl e);go_upto_region 2 with fail
   refine j5.region (l:=[0,1,2,3]) rfl ?_;refine j5.value (v:=.chan (some c)) (w1:=wr) rfl (by simp [go_sem]) (by simp [go_sem]) ?_;refine j5.recv_buf (z:=.agg #[.int .i64 0,.int .i64 0,.int .i64 0]) false rfl (by simp [go_sem]) (by simp [go_sem,rcase]) hcc (by simp) ?_;rw [hg0,hex];generalize wr.setChan c 64 (M.map dx.val).toArray false s (r+1) false=W2 at hc2 hF2 ⊢;refine j5.from 2 rfl ?_;simp only [List.drop_succ_cons,List.drop_zero,Act.put,List.setIfInBounds_toArray,got,Bool.false_eq_true,if_false];clear hcc hg0 hex hf2 hf;have hlt2:=(Array.getElem?_eq_some_iff.1 hc2).1;have hfa:Fr W2 (W2.alloc (.cells #[.int .i64 x.thread,.int .i64 x.value,.int .i64 x.badge] 165)) (fun _=>False):=(Fr.refl _ _).alloc _;have hc3:=hfa.same hc2 id;have hF3:Fr w (W2.alloc (.cells #[.int .i64 x.thread,.int .i64 x.value,.int .i64 x.badge] 165)) (fun k=>k=c):=hF2.step hfa (fun _=>False.elim);by_cases e:x.thread=b
   ·have hn:rot b l (i+1)=M:=by rw [hnext];simp [e]
    clear hnext hrot;rw [e] at hF3 hc3;go_wp2;go_roundw;case rel=>exact ⟨i+1,hlt,by go_num,⟨s,r+1,by rw [hn];exact hc3⟩,hF3⟩
    case measure=>simp [intOf];omega
   ·have hn:rot b l (i+1)=M++[x]:=by rw [hnext];simp [e]
    clear hnext hrot;have hb3:=heap_alloc_new W2 (.cells #[.int .i64 x.thread,.int .i64 x.value,.int .i64 x.badge] 165);go_upto_region 4 with fail
    generalize W2.alloc (.cells #[.int .i64 x.thread,.int .i64 x.value,.int .i64 x.badge] 165)=W3 at hb3 hc3 hF3 ⊢;have q0:=aa (o:=0) hb3 rfl;have q1:=aa (o:=1) hb3 rfl;have q2:=aa (o:=2) hb3 rfl;have hlt3:=(Array.getElem?_eq_some_iff.1 hc3).1;have hc4:=heap_setChan W3 c 64 ((M.map dx.val).toArray.push x.val) false (s+1) (r+1) false hlt3;have hF4:Fr w (W3.setChan c 64 ((M.map dx.val).toArray.push x.val) false (s+1) (r+1) false) (fun k=>k=c):=hF3.step (kk W3 c 64 ((M.map dx.val).toArray.push x.val) false (s+1) (r+1) false) (fun k e=>.inl e);refine j5.region (l:=[0,1,2]) rfl ?_;refine j5.value (v:=.chan (some c)) (w1:=W3) rfl (by simp [go_sem]) (by simp [go_sem]) ?_;refine j5.value (v:=x.val) (w1:=W3) rfl (by simp [go_sem]) (by simp [go_sem,q0,q1,q2,dx.val]) ?_;refine j5.send_room (v:=x.val) (z':=.tuple #[]) rfl (by simp [go_sem]) (by simp [go_sem,scase]) hc3 (by simp;omega) ?_;generalize W3.setChan c 64 ((M.map dx.val).toArray.push x.val) false (s+1) (r+1) false=W4 at hc4 hF4 ⊢;refine j5.from 3 rfl ?_;simp only [List.drop_succ_cons,List.drop_zero,Act.put,List.setIfInBounds_toArray];clear q0 q1 q2 hc3 hF3 hb3;go_wp2;go_roundw;case rel=>exact ⟨i+1,hlt,by go_num,⟨s+1,r+1,by rw [hn];simpa using hc4⟩,hF4⟩
    case measure=>simp [intOf];omega
  ·have hn:i=l.length:=by omega
   subst hn;go_wp2;go_end0;refine ⟨rfl,?_,hf⟩;simpa [rot] using hc
theorem ic.join {w w1 w2:World}{kb:Nat}{V V1:ah}{S:KS}(hf:Fr w w1 (V.fd kb))(hs:∀k,V1.fd kb k->V.fd kb k\/w.heap.size<=k)(h:ic w1 kb V1 S w2):ic w kb V S w2:=by
 obtain ⟨V2,k2,f2,s2⟩:=h;refine ⟨V2,k2,hf.step f2 hs,fun k hk=>?_⟩
 rcases s2 k hk with e | e
 ·exact hs k e
 ·exact .inr (Nat.le_trans hf.size e)
def jt (K:a_)(l:List dx):a_:={K with thr:=l.foldl wo K.thr}
theorem ab1 (K:a_)(x:dx)(l:List dx):jt K (x :: l)=jt (setThr K x.thread ⟨1,(gy K x.thread).root,0,0,9⟩) l:=rfl
structure ad3 (W0:World)(kb c:Nat)(V0:ah)(K1:a_)(D:List (Int×Int))(k:Nat)(wr:World)(K:a_)(V:ah)(l:List dx):Prop where
 kd:KD wr kb ⟨K,D⟩ V
 len:l.length=k
 left:jt K l=K1
 ch:∃s r,wr.heap[c]?=some (.chan 64 (l.map dx.val).toArray true s r false)
 fr:Fr W0 wr (fun k=>V0.fd kb k\/k=c)
 sub:∀k,V.fd kb k->V0.fd kb k\/W0.heap.size<=k
theorem ax3 (kb:Nat)(S:KS)(V:ah)(b:Int)(w:World)(h:KD w kb S V)(hb:∃q,S.K.qs b=some q):
 Calls Tryz.prog 112 #[.pointer (some ⟨kb,0,none⟩),.int .i64 b] w fun e w'=>e=.returned (.tuple #[])/\ic w kb V ⟨iu S.K b,S.D⟩ w':=by
 obtain ⟨q,hlq⟩:∃q,am b V.Q=some q:=by
  obtain ⟨x,hx⟩:=hb;rw [<- h.eq] at hx;simp only [ah.ker] at hx;cases hl:am b V.Q with
  | none=>rw [hl] at hx;cases hx
  | some q=>exact ⟨q,rfl⟩
 obtain ⟨q1,q2⟩:=q;have hkb:kb<w.heap.size:=World.block_lt_of_cell? _ _ h.ker.cq;have hrl:=h.ker.que.look_run (P:=Tryz.prog) ku Tryz.underlying64 (z:=.agg #[.chan none,.chan none]) (by kernel_rfl) b false;rw [hlq] at hrl;simp only [ke,Bool.false_eq_true,if_false,iy,o_] at hrl;obtain ⟨W0,hW0⟩:∃W0,w.alloc (.cells #[.chan (some q1),.chan (some q2)] 125)=W0:=⟨_,rfl⟩;have hf0:Fr w W0 (fun _=>False):=by rw [<- hW0];exact (Fr.refl _ _).alloc _
 have hb0:W0.heap[w.heap.size]?=some (.cells #[.chan (some q1),.chan (some q2)] 125 (0,0)):=by rw [<- hW0];exact heap_alloc_new _ _
 have h0:=h.frame hf0 (fun _ _=>id);have hcq:=h.ker.cq;have hcq0:=h0.ker.cq;obtain ⟨W1,hr1,hm1,hf1,hs1⟩:=h0.ker.que.del_run (P:=Tryz.prog) (ty:=0) ku Tryz.underlying64 b;simp only [ke] at hr1;have hqlt:V.qb<w.heap.size:=h.ker.que.lt;have hb1:=hf1.same hb0 (by omega);have hqq:lh V.Q q1/\lh V.Q q2:=⟨⟨b,_,hlq,.inl rfl⟩,⟨b,_,hlq,.inr rfl⟩⟩;have hne1:∀k,lh V.Q k->k≠V.qb:=fun k hk=>h.ker.rest.noMap h.ker.que hk
 have hr1':jv W1 V.Q V.C:=h0.ker.rest.frame hf1 (fun k hk=>hne1 k hk);have hK1:aq W1 kb {V with Q:=j3 b V.Q,C:=V.C}:=h0.ker.putQ hm1 hf1 (hr1'.del b h.ker.que.nodup);have hdb:∀k,V.dv.ownBlock=some k->¬V.fp kb k:=h.ap;have hd1:W1.ownsRow 0 116 2 V.dv S.D.length (ez S.D):=hf1.owns h0.d (fun k hk e=>h.ap k hk (.inr (.inr (.inr (.inr (.inl e))))))
 have hF1:Fr w W1 (V.fd kb):=(hf0.mono (fun _=>False.elim)).step hf1 (fun k hk=>.inl (.inl (.inr (.inr (.inr (.inr (.inl hk)))))))
 have hsub:∀k,ah.fp kb {V with Q:=j3 b V.Q,C:=V.C} k->V.fp kb k/\k≠q1/\k≠q2:=by
  intro k hk;have hne:∀m,lh V.Q m->¬(m=kb\/m=V.hb\/m=V.nb\/m=V.rb\/m=V.qb\/br V.tb V.M m):=by
   rintro m hm (e | e | e | e | e | e)
   ·obtain ⟨c,hc,_⟩:=h.ker.blk;exact h.ker.rest.noCells hc hm e
   ·exact h.ker.rest.noMap h.ker.held hm e
   ·exact h.ker.rest.noMap h.ker.nodes hm e
   ·exact h.ker.rest.noMap h.ker.thr hm e
   ·exact hne1 m hm e
   ·rcases e with e | ⟨s,x,hx,hk⟩
    ·exact h.ker.rest.noMap h.ker.tree.map hm e
    ·have hown:=h.ker.tree.own s x hx;rcases hown.2 with ⟨e0,_⟩ | ⟨g,cap,cur,e0,_,hg,_⟩
     ·rw [e0] at hk;cases hk
     ·rw [e0] at hk;have:g=m:=by simpa [Value.ownBlock] using hk
      rw [this] at hg;exact h.ker.rest.noCells hg hm rfl
  have old:(k=kb\/k=V.hb\/k=V.nb\/k=V.rb\/k=V.qb\/br V.tb V.M k)->V.fp kb k/\k≠q1/\k≠q2:=fun e=>by
   refine ⟨?_,fun e2=>hne q1 hqq.1 (e2▸e),fun e2=>hne q2 hqq.2 (e2▸e)⟩
   rcases e with e | e | e | e | e | e
   ·exact .inl e
   ·exact .inr (.inl e)
   ·exact .inr (.inr (.inl e))
   ·exact .inr (.inr (.inr (.inl e)))
   ·exact .inr (.inr (.inr (.inr (.inl e))))
   ·exact .inr (.inr (.inr (.inr (.inr (.inl e)))))
  rcases hk with e | e | e | e | e | e | e
  ·exact old (.inl e)
  ·exact old (.inr (.inl e))
  ·exact old (.inr (.inr (.inl e)))
  ·exact old (.inr (.inr (.inr (.inl e))))
  ·exact old (.inr (.inr (.inr (.inr (.inl e)))))
  ·exact old (.inr (.inr (.inr (.inr (.inr e)))))
  ·obtain ⟨e1,q',he,hk⟩:=e;have hne':e1≠b/\am e1 V.Q=some q':=by
    simp only at he;rw [j9 b e1 V.Q h.ker.que.nodup] at he;split at he
    ·cases he
    ·rename_i hn;exact ⟨fun e=>hn e.symm,he⟩
   obtain ⟨a1,a2,a3,a4⟩:=h.ker.rest.apart e1 q' b _ hne'.2 hlq hne'.1;refine ⟨.inr (.inr (.inr (.inr (.inr (.inr ⟨e1,q',hne'.2,hk⟩))))),?_,?_⟩
   ·rcases hk with rfl | rfl
    ·exact a1
    ·exact a3
   ·rcases hk with rfl | rfl
    ·exact a2
    ·exact a4
 obtain ⟨c1,c2⟩:=hr1'.chan b _ hlq;simp only at c1 c2;obtain ⟨l1,hl1⟩:∃l1,V.C q1=l1:=⟨_,rfl⟩;obtain ⟨l2,hl2⟩:∃l2,V.C q2=l2:=⟨_,rfl⟩;rw [hl1] at c1;rw [hl2] at c2;obtain ⟨s1,r1,c1⟩:=c1;obtain ⟨s2,r2,c2⟩:=c2;have htwo:q1≠q2:=h.ker.rest.two b _ hlq;have hql:q1<w.heap.size/\q2<w.heap.size:=⟨h.ker.rest.lt hqq.1,h.ker.rest.lt hqq.2⟩;obtain ⟨K1,hK1e⟩:∃K1:a_,K1={S.K with qs:=upd S.K.qs b none}:=⟨_,rfl⟩;obtain ⟨V1,hV1e⟩:∃V1:ah,V1={V with Q:=j3 b V.Q,C:=V.C}:=⟨_,rfl⟩;rw [<- hV1e] at hK1 hsub;have hdv1:V1.dv=V.dv:=by rw [hV1e]
 have hkd1:KD W1 kb ⟨K1,S.D⟩ V1:=by
  refine ⟨hK1,?_,by rw [hdv1];exact hd1,fun k hk e=>h.ap k (by rw [<- hdv1];exact hk) (hsub k e).1⟩
  rw [hK1e,<- h.eq,hV1e];simp only [ah.ker];congr 1;funext x;rw [j9 b x V.Q h.ker.que.nodup];simp only [upd];by_cases e:x=b
  ·subst e;simp
  ·rw [if_neg (Ne.symm e),if_neg e]
 have hsub1:∀k,V1.fd kb k->V.fd kb k/\k≠q1/\k≠q2:=by
  rintro k (e | e)
  ·obtain ⟨a1,a2,a3⟩:=hsub k e;exact ⟨.inl a1,a2,a3⟩
  ·rw [hdv1] at e;refine ⟨.inr e,fun e2=>h.ap k e ?_,fun e2=>h.ap k e ?_⟩
   ·rw [e2];exact .inr (.inr (.inr (.inr (.inr (.inr hqq.1)))))
   ·rw [e2];exact .inr (.inr (.inr (.inr (.inr (.inr hqq.2)))))
 have hans:iu S.K b=jt (jt K1 l1) l2:=by
  have hqb:S.K.qs b=some (l1,l2):=by rw [<- h.eq];simp [ah.ker,hlq,hl1,hl2]
  unfold iu jt;rw [hqb,hK1e];simp [List.foldl_append]
 have hcl1:=fun ats ty=>run_close_open (P:=Tryz.prog) ats ty c1
 obtain ⟨W2,hW2⟩:∃W2,{W1 with heap:=W1.heap.setIfInBounds q1 (.chan 64 (l1.map dx.val).toArray true s1 r1 false)}=W2:=⟨_,rfl⟩;have hf2:Fr W1 W2 (fun k=>k=q1):=by rw [<- hW2];exact bh2 _ _ _
 have hsh1:W2.heap[q1]?=some (.chan 64 (l1.map dx.val).toArray true s1 r1 false):=by
  rw [<- hW2];simp only;rw [Array.getElem?_setIfInBounds_self_of_lt (by have:=(Array.getElem?_eq_some_iff.1 c1).1;exact this)]
 have c2':=hf2.same c2 (Ne.symm htwo);simp only [hW2] at hcl1;have hkd2:=hkd1.frame hf2 (fun k hk e=>(hsub1 k hk).2.1 e)
 have hs12:w.heap.size<=W2.heap.size:=Nat.le_trans (by have:=hf0.size;have:=hf1.size;omega) hf2.size;have hlt2:q1<W2.heap.size/\q2<W2.heap.size:=⟨by omega,by omega⟩;have d0:=aa (o:=0) hb1 rfl;have d1:=aa (o:=1) hb1 rfl;have Hans:Hid (iu S.K b=jt (jt K1 l1) l2):=hans;clear hW2 c1 c2 hd1 hdb hK1 hr1' hne1 hm1 h0 hs1 hans hK1e hV1e hl1 hl2 hdv1;have hi0:=by2 (some q1) (some q2);have hi1:=bt4 (some q1) (some q2);go_enter Tryz.func112,Tryz.ntmps112
 go_wp2;refine wp_loop_rounds 3 ?_;rw [rounds_succ];go_wp2;clear hcl1 hrl hcq hcq0 d0 d1 hi0;go_loopg [29] (l1.length) (fun k _ wr=>∃K V' l,ad3 W2 kb q1 V1 (jt K1 l1) S.D k wr K V' l)
 case atStart=>exact ⟨K1,V1,l1,hkd2,rfl,rfl,⟨s1,r1,hsh1⟩,Fr.refl _ _,fun k hk=>.inl hk⟩
 case round=>
  obtain ⟨K,V',l,hI⟩:=hrel;obtain ⟨hkd,hlen,hleft,⟨s,r,hch⟩,hfr,hsub'⟩:=hI;have hnq:∀k,V'.fd kb k->k≠q1:=fun k hk e=>by
   rcases hsub' k hk with e1 | e1
   ·exact (hsub1 k e1).2.1 e
   ·omega
  have hnq2:∀k,V'.fd kb k->k≠q2:=fun k hk e=>by
   rcases hsub' k hk with e1 | e1
   ·exact (hsub1 k e1).2.2 e
   ·omega
  cases l with
  | nil=>
   have hleft:K=jt K1 l1:=hleft;have c2w:=hfr.same c2' (fun e=>e.elim (fun e=>(hsub1 q2 e).2.2 rfl) (Ne.symm htwo))
   have hcl2:=fun ats ty=>run_close_open (P:=Tryz.prog) ats ty c2w
   obtain ⟨W4,hW4⟩:∃W4,{wr with heap:=wr.heap.setIfInBounds q2 (.chan 64 (l2.map dx.val).toArray true s2 r2 false)}=W4:=⟨_,rfl⟩;have hf4:Fr wr W4 (fun k=>k=q2):=by rw [<- hW4];exact bh2 _ _ _
   have hsh2:W4.heap[q2]?=some (.chan 64 (l2.map dx.val).toArray true s2 r2 false):=by
    rw [<- hW4];simp only;rw [Array.getElem?_setIfInBounds_self_of_lt (by have:=(Array.getElem?_eq_some_iff.1 c2w).1;exact this)]
   simp only [hW4] at hcl2;have hkd4:=hkd.frame hf4 (fun k hk e=>hnq2 k hk e);have hF4:Fr W1 W4 (fun k=>V.fd kb k\/k=q1\/k=q2):=((hf2.mono (fun k e=>.inr (.inl e))).step hfr (fun k e=>by
    rcases e with e | e
    ·exact .inl (.inl (hsub1 k e).1)
    ·exact .inl (.inr (.inl e)))).step hf4 (fun k e=>.inl (.inr (.inr e)))
   have hs4:∀k,V'.fd kb k->V.fd kb k\/w.heap.size<=k:=fun k hk=>by
    rcases hsub' k hk with e | e
    ·exact .inl (hsub1 k e).1
    ·exact .inr (by omega)
   have hz4:W2.heap.size<=W4.heap.size:=Nat.le_trans hfr.size hf4.size;have Hleft:Hid (K=jt K1 l1):=hleft;clear hW4 hleft c2w hkd hsh1 hlen hnq;go_upto_region 7 with fail
   refine j5.region (l:=[0,1]) rfl ?_;refine j5.recv_shut (c:=q1) (z:=.agg #[.int .i64 0,.int .i64 0,.int .i64 0]) true rfl (by simp [go_sem]) (by simp [go_sem,rcase]) (by simpa using hch) ?_;refine j5.from 1 rfl ?_;simp only [List.drop_succ_cons,List.drop_zero,Act.put,List.setIfInBounds_toArray,got,if_true];clear hch;go_wp2;rw [rounds_succ];go_wp2;clear hcl2 hi1;go_loopg [29] (l2.length) (fun k _ wr=>∃K' V'' l,ad3 W4 kb q2 V' (jt K l2) S.D k wr K' V'' l)
   case atStart=>exact ⟨K,V',l2,hkd4,rfl,rfl,⟨s2,r2,hsh2⟩,Fr.refl _ _,fun k hk=>.inl hk⟩
   case round=>
    clear hf4 hkd4 hfr hsub';obtain ⟨K',V'',l,hI⟩:=hrel;obtain ⟨hkd,hlen,hleft,⟨s,r,hch⟩,hfr,hsub'⟩:=hI;have hnq:∀k,V''.fd kb k->k≠q2:=fun k hk e=>by
     rcases hsub' k hk with e1 | e1
     ·exact hnq2 k e1 e
     ·omega
    cases l with
    | nil=>
     have hleft:K'=jt K l2:=hleft;have hK':K'=iu S.K b:=by rw [Hans.out,hleft,Hleft.out]
     have hout:ic w kb V ⟨iu S.K b,S.D⟩ wr:=by
      have hq12:∀k,k=q1\/k=q2->V.fd kb k:=fun k e=>by
       rcases e with e | e
       ·rw [e];exact .inl (.inr (.inr (.inr (.inr (.inr (.inr hqq.1))))))
       ·rw [e];exact .inl (.inr (.inr (.inr (.inr (.inr (.inr hqq.2))))))
      refine ⟨V'',by rw [<- hK'];exact hkd,(hF1.step hF4 (fun k e=>?_)).step hfr (fun k e=>?_),fun k hk=>?_⟩
      ·rcases e with e | e
       ·exact .inl e
       ·exact .inl (hq12 k e)
      ·rcases e with e | e
       ·exact hs4 k e
       ·exact .inl (hq12 k (.inr e))
      ·rcases hsub' k hk with e | e
       ·exact hs4 k e
       ·exact .inr (by omega)
     clear hleft hkd hfr hsub' hF4 hs4 Hleft Hans hK';go_upto_region 7 with fail
     refine j5.region (l:=[0,1]) rfl ?_;refine j5.recv_shut (c:=q2) (z:=.agg #[.int .i64 0,.int .i64 0,.int .i64 0]) true rfl (by simp [go_sem]) (by simp [go_sem,rcase]) (by simpa using hch) ?_;refine j5.from 1 rfl ?_;simp only [List.drop_succ_cons,List.drop_zero,Act.put,List.setIfInBounds_toArray,got,if_true];clear hch;go_wp2;rw [rounds_succ];go_wp2;go_end0;exact ⟨rfl,hout⟩
    | cons x l=>
     have hg0:(List.map dx.val (x :: l)).toArray.getD 0 undef=.agg #[.int .i64 x.thread,.int .i64 x.value,.int .i64 x.badge]:=by simp [dx.val]
     have hex:(List.map dx.val (x :: l)).toArray.extract 1 (List.map dx.val (x :: l)).toArray.size=(l.map dx.val).toArray:=by simp;exact List.take_of_length_le (by simp)
     have hqw:q2<wr.heap.size:=(Array.getElem?_eq_some_iff.1 hch).1;have hc5:=heap_setChan wr q2 64 (l.map dx.val).toArray true s (r+1) false hqw;have hf5:=kk wr q2 64 (l.map dx.val).toArray true s (r+1) false;have hkd5:=hkd.frame hf5 (fun k hk e=>hnq k hk e);have hF5:Fr W4 (wr.setChan q2 64 (l.map dx.val).toArray true s (r+1) false) (fun k=>V'.fd kb k\/k=q2):=hfr.step hf5 (fun k e=>.inl (.inr e))
     go_upto_region 7 with fail
     refine j5.region (l:=[0,1]) rfl ?_;refine j5.recv_buf (z:=.agg #[.int .i64 0,.int .i64 0,.int .i64 0]) true rfl (by simp [go_sem]) (by simp [go_sem,rcase]) hch (by simp) ?_;rw [hg0,hex];generalize wr.setChan q2 64 (l.map dx.val).toArray true s (r+1) false=W5 at hc5 hkd5 hF5 ⊢;refine j5.from 1 rfl ?_;simp only [List.drop_succ_cons,List.drop_zero,Act.put,List.setIfInBounds_toArray,got,if_true];have hfa:Fr W5 (W5.alloc (.cells #[.int .i64 x.thread,.int .i64 x.value,.int .i64 x.badge] 165)) (fun _=>False):=(Fr.refl _ _).alloc _;have hge:=zx kb ⟨K',S.D⟩ V'' x.thread 0 0 9 _ (hkd5.frame hfa (fun _ _=>id));have hc6:=hfa.same hc5 id;have hF6:=hF5.step hfa (fun _=>False.elim);clear hg0 hex hf5 hkd hfr hch;go_wp2_with (go_at_call 75;refine hge.mono ?_;rintro e W7 ⟨rfl,V7,k7,f7,s7⟩)
     have hI7:ad3 W4 kb q2 V' (jt K l2) S.D l.length W7 (setThr K' x.thread ⟨1,(gy K' x.thread).root,0,0,9⟩) V7 l:=by
      refine ⟨k7,rfl,by rw [<- ab1];exact hleft,⟨s,r+1,f7.same hc6 (fun e=>hnq _ e rfl)⟩,hF6.step f7 (fun k e=>(hsub' k e).imp .inl id),fun k hk=>?_⟩
      rcases s7 k hk with e | e
      ·exact hsub' k e
      ·exact .inr (Nat.le_trans hF6.size e)
     go_roundg (l.length)
     case measure=>simp at hlen;omega
     case rel=>exact ⟨_,V7,l,hI7⟩
  | cons x l=>
   have hg0:(List.map dx.val (x :: l)).toArray.getD 0 undef=.agg #[.int .i64 x.thread,.int .i64 x.value,.int .i64 x.badge]:=by simp [dx.val]
   have hex:(List.map dx.val (x :: l)).toArray.extract 1 (List.map dx.val (x :: l)).toArray.size=(l.map dx.val).toArray:=by simp;exact List.take_of_length_le (by simp)
   have hqw:q1<wr.heap.size:=(Array.getElem?_eq_some_iff.1 hch).1;have hc5:=heap_setChan wr q1 64 (l.map dx.val).toArray true s (r+1) false hqw;have hf5:=kk wr q1 64 (l.map dx.val).toArray true s (r+1) false;have hkd5:=hkd.frame hf5 (fun k hk e=>hnq k hk e);have hF5:Fr W2 (wr.setChan q1 64 (l.map dx.val).toArray true s (r+1) false) (fun k=>V1.fd kb k\/k=q1):=hfr.step hf5 (fun k e=>.inl (.inr e))
   go_upto_region 7 with fail
   refine j5.region (l:=[0,1]) rfl ?_;refine j5.recv_buf (z:=.agg #[.int .i64 0,.int .i64 0,.int .i64 0]) true rfl (by simp [go_sem]) (by simp [go_sem,rcase]) hch (by simp) ?_;rw [hg0,hex];generalize wr.setChan q1 64 (l.map dx.val).toArray true s (r+1) false=W5 at hc5 hkd5 hF5 ⊢;refine j5.from 1 rfl ?_;simp only [List.drop_succ_cons,List.drop_zero,Act.put,List.setIfInBounds_toArray,got,if_true];have hfa:Fr W5 (W5.alloc (.cells #[.int .i64 x.thread,.int .i64 x.value,.int .i64 x.badge] 165)) (fun _=>False):=(Fr.refl _ _).alloc _;have hge:=zx kb ⟨K,S.D⟩ V' x.thread 0 0 9 _ (hkd5.frame hfa (fun _ _=>id));have hc6:=hfa.same hc5 id;have hF6:=hF5.step hfa (fun _=>False.elim);clear hg0 hex hf5 hkd hfr hch;go_wp2_with (go_at_call 75;refine hge.mono ?_;rintro e W7 ⟨rfl,V7,k7,f7,s7⟩)
   have hI7:ad3 W2 kb q1 V1 (jt K1 l1) S.D l.length W7 (setThr K x.thread ⟨1,(gy K x.thread).root,0,0,9⟩) V7 l:=by
    refine ⟨k7,rfl,by rw [<- ab1];exact hleft,⟨s,r+1,f7.same hc6 (fun e=>hnq _ e rfl)⟩,hF6.step f7 (fun k e=>(hsub' k e).imp .inl id),fun k hk=>?_⟩
    rcases s7 k hk with e | e
    ·exact hsub' k e
    ·exact .inr (Nat.le_trans hF6.size e)
   go_roundg (l.length)
   case measure=>simp at hlen;omega
   case rel=>exact ⟨_,V7,l,hI7⟩
def noB (b:Int)(l:List dx):List dx:=l.filter (fun w=>w.thread≠b)
theorem ag6 {α:Type}{k:Int}{v:α}:∀{m:List (Int×α)},am k m=some v->(k,v)∈m
 | [],h=>by cases h
 |(k',v') :: m,h=>by
  by_cases e:k'=k
  ·subst e;simp [am] at h;subst h;simp
  ·simp [am,e] at h;exact List.mem_cons_of_mem _ (ag6 h)
theorem y8 {α:Type}:∀{m:List (Int×α)},(m.map Prod.fst).Nodup->m.Nodup
 | [],_=>List.nodup_nil
 | p :: m,h=>by
  rw [List.map_cons,List.nodup_cons] at h;exact List.nodup_cons.2 ⟨fun e=>h.1 (List.mem_map.2 ⟨p,e,rfl⟩),y8 h.2⟩
theorem bn3 (b:Int)(q:List dx×List dx):ao7 b q=(noB b q.1,noB b q.2):=rfl
structure b6_ (b:Int)(V:ah)(rest:List (Int×(Nat×Nat)))(C:Nat->List dx):Prop where
 old:∀p∈V.Q,p∈rest->C p.2.1=V.C p.2.1/\C p.2.2=V.C p.2.2
 new:∀p∈V.Q,p∉rest->C p.2.1=noB b (V.C p.2.1)/\C p.2.2=noB b (V.C p.2.2)
structure ay0 (W0:World)(kb I:Nat)(b:Int)(V:ah)(D:List (Int×Int))(k:Nat)(wr:World)(rest:List (Int×(Nat×Nat)))(C:Nat->List dx):Prop where
 len:rest.length=k
 it:my wr I V.qb ke o_ V.Q rest
 sub:∀p∈rest,p∈V.Q
 nd:rest.Nodup
 left:b6_ b V rest C
 ker:aq wr kb {V with C:=C}
 d:wr.ownsRow 0 116 2 V.dv D.length (ez D)
 fr:Fr W0 wr (fun k=>k=I\/lh V.Q k)
theorem jv.put {w w':World}{Q:List (Int×(Nat×Nat))}{C:Nat->List dx}(h:jv w Q C){b:Int}{q:Nat×Nat}(hq:am b Q=some q){l1 l2:List dx}(hf:Fr w w' (fun k=>k=q.1\/k=q.2))(h1:lr w' q.1 l1)(h2:lr w' q.2 l2):jv w' Q (fun c=>if c=q.1 then l1 else if c=q.2 then l2 else C c):=by
 refine ⟨fun e p hp=>?_,h.apart,h.two⟩
 have htwo:=h.two b q hq;by_cases he:e=b
 ·subst he;rw [hq] at hp;cases hp
  refine ⟨by simpa using h1,?_⟩;simp only [if_neg (Ne.symm htwo),if_true];exact h2
 ·obtain ⟨a1,a2,a3,a4⟩:=h.apart e p b q hp hq he;obtain ⟨c1,c2⟩:=h.chan e p hp;simp only [if_neg a1,if_neg a2,if_neg a3,if_neg a4];exact ⟨c1.frame hf (fun e=>e.elim a1 a2),c2.frame hf (fun e=>e.elim a3 a4)⟩
theorem aq.putC {w w':World}{kb:Nat}{V:ah}{X:Nat->Prop}(h:aq w kb V)(hf:Fr w w' X)(hX:∀k,X k->lh V.Q k){C:Nat->List dx}(hr:jv w' V.Q C):aq w' kb {V with C:=C}:=by
 obtain ⟨c,hc,hcc⟩:=h.blk;have hne:∀m,X m->¬(m=kb\/m=V.hb\/m=V.nb\/m=V.rb\/m=V.qb\/br V.tb V.M m):=by
  intro m hm e;have hm:=hX m hm;rcases e with e | e | e | e | e | e
  ·exact h.rest.noCells hc hm e
  ·exact h.rest.noMap h.held hm e
  ·exact h.rest.noMap h.nodes hm e
  ·exact h.rest.noMap h.thr hm e
  ·exact h.rest.noMap h.que hm e
  ·rcases e with e | ⟨s,x,hx,hk⟩
   ·exact h.rest.noMap h.tree.map hm e
   ·have hown:=h.tree.own s x hx;rcases hown.2 with ⟨e0,_⟩ | ⟨g,cap,cur,e0,_,hg,_⟩
    ·rw [e0] at hk;cases hk
    ·rw [e0] at hk;have:g=m:=by simpa [Value.ownBlock] using hk
     rw [this] at hg;exact h.rest.noCells hg hm rfl
 exact ⟨⟨c,hf.same hc (fun e=>hne kb e (.inl rfl)),⟨hcc.size,hcc.w,hcc.h,hcc.t,hcc.n,hcc.d,hcc.r,hcc.q⟩⟩,h.held.frame hf (fun e=>hne _ e (.inr (.inl rfl))),h.tree.frame hf (fun k hk e=>hne k e (.inr (.inr (.inr (.inr (.inr hk)))))),h.nodes.frame hf (fun e=>hne _ e (.inr (.inr (.inl rfl)))),h.thr.frame hf (fun e=>hne _ e (.inr (.inr (.inr (.inl rfl))))),h.que.frame hf (fun e=>hne _ e (.inr (.inr (.inr (.inr (.inl rfl)))))),h.ht,h.hn,h.hr,h.hq,h.tn,h.tr,h.tq,h.nr,h.nq,h.rq,h.rows,hr⟩
theorem br5 (kb:Nat)(S:KS)(V:ah)(b:Int)(w:World)(h:KD w kb S V)(hl:∀e q,S.K.qs e=some q->q.1.length<=64/\q.2.length<=64):
 Calls Tryz.prog 113 #[.pointer (some ⟨kb,0,none⟩),.int .i64 b] w fun e w'=>e=.returned (.tuple #[])/\ic w kb V ⟨a88 S.K b,S.D⟩ w':=by
 have hlc:∀e q,am e V.Q=some q->(V.C q.1).length<=64/\(V.C q.2).length<=64:=fun e q he=>hl e (V.C q.1,V.C q.2) (by rw [<- h.eq];simp [ah.ker,he])
 have hkb:kb<w.heap.size:=World.block_lt_of_cell? _ _ h.ker.cr;obtain ⟨WA,hrA,hmA,hfA,hsA⟩:=h.ker.thr.del_run (P:=Tryz.prog) (ty:=0) ku Tryz.underlying63 b;simp only [ke] at hrA;have hA:=h.ker.putT hmA hfA;obtain ⟨VA,hVA⟩:∃VA:ah,VA={V with T:=j3 b V.T}:=⟨_,rfl⟩;rw [<- hVA] at hA;have eQ:VA.Q=V.Q:=by rw [hVA]
 have eC:VA.C=V.C:=by rw [hVA]
 have eqb:VA.qb=V.qb:=by rw [hVA]
 have edv:VA.dv=V.dv:=by rw [hVA]
 have hcr:=h.ker.cr;have hcq:=hA.cq;rw [eqb] at hcq;obtain ⟨WB,hrB,hitB,hfB,hsB⟩:=hA.que.range_run (P:=Tryz.prog) Tryz.underlying64;rw [eqb] at hrB hitB;have hBk:aq WB kb VA:=hA.frame hfB (fun _ _=>id);have hFB:Fr w WB (V.fd kb):=((Fr.refl w (V.fd kb)).step hfA (fun k hk=>.inl (.inl (.inr (.inr (.inr (.inl hk))))))).step hfB (fun _=>False.elim)
 have hdB:WB.ownsRow 0 116 2 V.dv S.D.length (ez S.D):=hfB.owns (hfA.owns h.d (fun k hk e=>h.ap k hk (by rw [e];exact .inr (.inr (.inr (.inl rfl)))))) (fun _ _=>id)
 have hqlt:V.qb<w.heap.size:=h.ker.que.lt;rw [hsA] at hitB hsB;have hIk:∀k,V.fd kb k->k≠w.heap.size:=fun k hk e=>by
  rcases hk with hk | hk
  ·have:=h.ker.fpLt hk;omega
  ·have:=(h.d.lt k hk).2;omega
 have hqn:(VA.Q.map Prod.fst).Nodup:=by rw [eQ];exact h.ker.que.nodup
 have hrf:∀k,lh VA.Q k->V.fd kb k:=fun k hk=>.inl (.inr (.inr (.inr (.inr (.inr (.inr (by rw [<- eQ];exact hk)))))))
 have hfin:∀wr C,ay0 WB kb w.heap.size b VA S.D 0 wr [] C->ic w kb V ⟨a88 S.K b,S.D⟩ wr:=by
  intro wr C hI;refine ⟨{VA with C:=C},⟨hI.ker,?_,by have:=hI.d;rw [edv] at this;simpa [edv] using this,fun k hk e=>?_⟩,hFB.step hI.fr (fun k e=>?_),fun k hk=>?_⟩
  ·rw [<- h.eq];simp only [ah.ker,a88];have hq:∀x q,am x VA.Q=some q->C q.1=noB b (V.C q.1)/\C q.2=noB b (V.C q.2):=fun x q hx=>by
    have:=hI.left.new (x,q) (ag6 hx) (by simp);rw [eC] at this;exact this
   rw [hVA];congr 1
   ·funext x;rw [j9 b x V.T h.ker.thr.nodup];simp only [upd];by_cases e:x=b
    ·subst e;simp
    ·rw [if_neg (Ne.symm e),if_neg e]
   ·funext x;cases hx:am x V.Q with
    | none=>rfl
    | some q=>
     obtain ⟨c1,c2⟩:=hq x q (by rw [eQ];exact hx);simp [c1,c2,bn3]
  ·have hk':V.dv.ownBlock=some k:=by rw [<- edv];exact hk
   refine h.ap k hk' ?_;rw [hVA] at e;exact e
  ·rcases e with e | e
   ·exact .inr (by omega)
   ·exact .inl (hrf k e)
  ·left;rw [hVA] at hk;exact hk
 have hchl:∀e q,am e VA.Q=some q->q.1≠w.heap.size/\q.2≠w.heap.size:=fun e q he=>⟨hIk _ (hrf _ ⟨e,q,he,.inl rfl⟩),hIk _ (hrf _ ⟨e,q,he,.inr rfl⟩)⟩
 have hdq:∀k,V.dv.ownBlock=some k->¬lh VA.Q k:=fun k hk e=>h.ap k hk (.inr (.inr (.inr (.inr (.inr (.inr (by rw [<- eQ];exact e)))))))
 have hdI:∀k,V.dv.ownBlock=some k->k≠w.heap.size:=fun k hk=>hIk k (.inr hk)
 have hkI:∀k,VA.fp kb k->k≠w.heap.size:=fun k hk=>hIk k (.inl (by rw [hVA] at hk;exact hk))
 have hqbr:¬lh VA.Q V.qb:=fun e=>by have:=hBk.rest.noMap hBk.que e;rw [eqb] at this;exact this rfl
 have hstart:ay0 WB kb w.heap.size b VA S.D VA.Q.length WB VA.Q VA.C:=⟨rfl,by rw [eqb];exact hitB,fun _ h=>h,y8 hqn,⟨fun _ _ _=>⟨rfl,rfl⟩,fun p hp hn=>absurd hp hn⟩,by cases VA;exact hBk,by rw [edv];exact hdB,Fr.refl _ _⟩
 have hqne:w.heap.size≠VA.qb:=by rw [eqb];omega
 have hlc':∀e q,am e VA.Q=some q->(VA.C q.1).length<=64/\(VA.C q.2).length<=64:=fun e q he=>by rw [eC];exact hlc e q (by rw [<- eQ];exact he)
 rw [<- edv] at hdq hdI;rw [<- eqb] at hqbr hrB hcq;clear hmA hfA hfB hdB hFB hIk hlc h hA hBk hitB hrf hVA eQ eC edv eqb hqlt hl;go_enter Tryz.func113,Tryz.ntmps113
 go_wp2;clear hrA hrB hcr hcq hsA;go_loopg [5] (VA.Q.length) (fun k _ w'=>∃rest C,Aside (ay0 WB kb w.heap.size b VA S.D k w' rest C))
 case atStart=>exact ⟨VA.Q,VA.C,hstart⟩
 case round=>
  obtain ⟨rest,C,hAs⟩:=hrel;have hI:=hAs.out;clear hAs hstart;rcases hI.it.next_run (P:=Tryz.prog) (by omega) 0 with ⟨h0,hr⟩ | ⟨pre,post,k,v,w1,hrest,hr,he,hit1,hF1,hs1⟩
  ·have ho:=hfin wr C (by
    have hk:=hI.len;subst h0;simp only [List.length_nil] at hk;rw [<- hk] at hI;exact hI)
   clear hfin hI h0;go_wp2;go_end0;exact ⟨rfl,ho⟩
  ·have hmem:(k,v)∈rest:=by rw [hrest];simp
   have hlv:am k VA.Q=some v:=nc hqn (hI.sub (k,v) hmem);obtain ⟨o1,o2⟩:=hI.left.old (k,v) (hI.sub _ hmem) hmem;simp only at o1 o2;obtain ⟨ch1,ch2⟩:=hI.ker.rest.chan k v hlv;simp only at ch1 ch2;rw [o1] at ch1;rw [o2] at ch2;obtain ⟨cl1,cl2⟩:=hchl k v hlv;obtain ⟨len1,len2⟩:=hlc' k v hlv;have htwo:=hI.ker.rest.two k v hlv;have c1:=ch1.frame hF1 cl1;have c2:=ch2.frame hF1 cl2;clear hs1;simp only [ke,o_] at hr he;go_upto_region 4 with fail
   generalize hW2:World.alloc _ _=W2;have hf2:Fr w1 W2 (fun _=>False):=by rw [<- hW2];exact (Fr.refl _ _).alloc _
   have hb2:W2.heap[w1.heap.size]?=some (.cells #[.chan (some v.1),.chan (some v.2)] 125 (0,0)):=by rw [<- hW2];exact heap_alloc_new _ _
   clear hW2 hr he;have hlt1:v.1<w1.heap.size/\v.2<w1.heap.size:=by
    obtain ⟨_,_,a1⟩:=c1;obtain ⟨_,_,a2⟩:=c2;exact ⟨(Array.getElem?_eq_some_iff.1 a1).1,(Array.getElem?_eq_some_iff.1 a2).1⟩
   have q0:=aa (o:=0) hb2 rfl;have lv1:=ar7 v.1 b (VA.C v.1) W2 (c1.frame hf2 id) len1;have q1':∀W3,Fr W2 W3 (fun k=>k=v.1)->W3.cell? ⟨w1.heap.size,1,none⟩=some (.chan (some v.2)):=fun W3 hf=>aa (o:=1) (hf.same hb2 (by omega)) rfl
   have lv2:∀W3,Fr W2 W3 (fun k=>k=v.1)->_:=fun W3 hf=>ar7 v.2 b (VA.C v.2) W3 ((c2.frame hf2 id).frame hf (Ne.symm htwo)) len2
   have hIk:=hI.ker;have hId:=hI.d;have hIf:=hI.fr;have hIl:=hI.left;have hIs:=hI.sub;have hIn:=hI.nd;have hIlen:=hI.len;clear hI;go_upto_region 5 with (go_at_call 118;refine lv1.mono ?_;rintro e W3 ⟨rfl,d1,hf3⟩;have q1:=q1' W3 hf3)
   go_wp2_with (go_at_call 118;refine (lv2 W3 hf3).mono ?_;rintro e W4 ⟨rfl,d2,hf4⟩)
   have hf24:Fr W2 W4 (fun k=>k=v.1\/k=v.2):=(hf3.mono (fun _ e=>.inl e)).step hf4 (fun k e=>.inl (.inr e))
   have hIw2:Fr wr W2 (fun k=>k=w.heap.size):=hF1.step hf2 (fun _=>False.elim);have hk2:aq W2 kb {VA with C:=C}:=hIk.frame hIw2 (fun k hk=>hkI k hk);have hr4:=hk2.rest.put hlv hf24 (d1.frame hf4 htwo) d2;have hX:∀k,k=v.1\/k=v.2->lh VA.Q k:=fun j e=>by
    rcases e with e | e
    ·exact ⟨k,v,hlv,.inl e⟩
    ·exact ⟨k,v,hlv,.inr e⟩
   have hk4:=hk2.putC hf24 hX hr4;have hnd:(pre++post).Nodup/\(k,v)∉pre++post:=by
    rw [hrest] at hIn;have h1:=hIn;rw [List.nodup_append] at h1;obtain ⟨a1,a2,a3⟩:=h1;rw [List.nodup_cons] at a2;refine ⟨List.nodup_append.2 ⟨a1,a2.2,fun x hx y hy=>a3 x hx y (List.mem_cons_of_mem _ hy)⟩,fun e=>?_⟩
    rcases List.mem_append.1 e with e | e
    ·exact a3 _ e _ (by simp) rfl
    ·exact a2.1 e
   have hmem2:∀p,p∈rest ↔ p=(k,v)\/p∈pre++post:=fun p=>by rw [hrest];simp only [List.mem_append,List.mem_cons];constructor<;>(intro h;rcases h with h | h | h<;>simp [h])
   have hI4:ay0 WB kb w.heap.size b VA S.D (pre++post).length W4 (pre++post) (fun c=>if c=v.1 then noB b (VA.C v.1) else if c=v.2 then noB b (VA.C v.2) else C c):=by
    have hap:∀p∈VA.Q,p≠(k,v)->p.2.1≠v.1/\p.2.1≠v.2/\p.2.2≠v.1/\p.2.2≠v.2:=fun p hp hne=>by
     have hlp:am p.1 VA.Q=some p.2:=nc hqn hp;refine hIk.rest.apart p.1 p.2 k v hlp hlv (fun e=>hne ?_);rw [e,hlv] at hlp;exact Prod.ext e (Option.some.inj hlp).symm
    refine ⟨rfl,(hit1.frame hf2 id id).frame hf24 (fun e=>?_) (fun e=>?_),fun p hp=>hIs p ((hmem2 p).2 (.inr hp)),hnd.1,⟨fun p hp hin=>?_,fun p hp hout=>?_⟩,hk4,hf24.owns (hIw2.owns hId (fun j hj=>hdI j hj)) (fun j hj e=>hdq j hj (hX j e)),(hIf.step hIw2 (fun j e=>.inl (.inl e))).step hf24 (fun j e=>.inl (.inr (hX j e)))⟩
    ·exact e.elim (fun e=>cl1 e.symm) (fun e=>cl2 e.symm)
    ·exact hqbr (hX _ e)
    ·have hne:p≠(k,v):=fun e=>hnd.2 (e▸hin)
     obtain ⟨a1,a2,a3,a4⟩:=hap p hp hne;simp only [if_neg a1,if_neg a2,if_neg a3,if_neg a4];exact hIl.old p hp ((hmem2 p).2 (.inr hin))
    ·by_cases hne:p=(k,v)
     ·subst hne;exact ⟨by simp,by simp [Ne.symm htwo]⟩
     ·obtain ⟨a1,a2,a3,a4⟩:=hap p hp hne;simp only [if_neg a1,if_neg a2,if_neg a3,if_neg a4];exact hIl.new p hp (fun e=>by rcases (hmem2 p).1 e with e | e;exact hne e;exact hout e)
   have hme:(pre++post).length<gk:=by rw [<- hIlen,hrest];simp
   clear hIk hId hIf hIl hIs hIn hk2 hr4 hk4 hnd hmem2 hit1;go_roundg ((pre++post).length)
   case measure=>exact hme
   case rel=>exact ⟨pre++post,_,hI4⟩
end Go.Proofs.YtdpjgflemddekaaGreatDoor
