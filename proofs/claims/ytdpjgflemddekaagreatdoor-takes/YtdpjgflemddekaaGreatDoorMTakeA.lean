/- The code: takeAway, up to what becomes of an object that nobody holds. -/
import Derived.Test.YtdpjgflemddekaaGreatDoorMCutD
import Derived.Test.YtdpjgflemddekaaGreatDoorMLeaveA
set_option maxRecDepth 100000
set_option maxHeartbeats 1000000
namespace Go.Proofs.YtdpjgflemddekaaGreatDoor
open Go.RowKit
attribute [local go_sem] h_ mm jw gh mh j_ pd ab5 ly ip o6 bp
theorem ev.past {κ α:Type}{val:κ->Value}{enc:α->Value}{w w':World}{b:Nat}{m:List (κ×α)}(h:ev w)(hm:ei w b val enc m)(hf:Fr w w' (fun k=>k=b)):ev w':=by
 have key:∀(a:Addr) (v:Value),w.cell? a=some v->¬a.block=b:=fun a v hc e=>by
  obtain ⟨es,clock,hb,_⟩:=hm.blk;rw [<- e] at hb;simp [World.cell?,hb] at hc
 exact ⟨hf.cell h.n0 (key _ _ h.n0),hf.cell h.n1 (key _ _ h.n1),fun i hi=>⟨hf.cell (h.bits i hi).1 (key _ _ (h.bits i hi).1),hf.cell (h.bits i hi).2 (key _ _ (h.bits i hi).2)⟩⟩
theorem ev.fr0 {w w':World}(h:ev w)(hf:Fr w w' (fun _=>False)):ev w':=
 ⟨hf.cell h.n0 id,hf.cell h.n1 id,fun i hi=>⟨hf.cell (h.bits i hi).1 id,hf.cell (h.bits i hi).2 id⟩⟩
theorem ac9 (kb:Nat)(S:KS)(V:ah)(s:Slot)(c:KCap)(w:World)(h:KD w kb S V)(hgl:ev w)(hc:S.K.held s=some c)(hT:ap3 S.K)(hlen:∀a x p y,S.K.st a=some x->S.K.st p=some y->y.kids.length+x.kids.length<=1000000)(hl:S.D.length<=900000)(hq:∀e q,S.K.qs e=some q->q.1.length<=64/\q.2.length<=64)
 (hen:∀b n r g,c=.endpoint b n r g->∃q,S.K.qs b=some q) :
 Calls Tryz.prog 101 #[.pointer (some ⟨kb,0,none⟩),.agg #[.int .i64 s.node,.int .i64 s.index]] w fun e w'=>e=.returned (.tuple #[])/\ic w kb V (iz S s) w':=by
 have hkb:kb<w.heap.size:=World.block_lt_of_cell? _ _ h.ker.ch;obtain ⟨S2,HS2⟩:∃S2,Hid (S2=iz S s):=⟨_,rfl⟩;rw [<- HS2.out];go_enter Tryz.func101,Tryz.ntmps101
 go_upto_region 1 with fail
 generalize hW0:w.alloc _=W0;have hf0:Fr w W0 (fun _=>False):=by rw [<- hW0];exact (Fr.refl _ _).alloc _
 have hb0:W0.heap[w.heap.size]?=some (.cells #[.int .i64 s.node,.int .i64 s.index] 71 (0,0)):=by rw [<- hW0];exact heap_alloc_new _ _
 have hs0:W0.heap.size=w.heap.size+1:=by rw [<- hW0];simp
 clear hW0;have h0:=h.frame hf0 (fun _ _=>id);have hd0:=h0.frame ((Fr.refl W0 (fun _=>False)).drew) (fun _ _=>id);have hlk:am s V.H=some c:=by have:=h.eq;rw [<- this] at hc;exact hc
 have hr1:=hd0.ker.held.look_run (P:=Tryz.prog) em Tryz.underlying59 (z:=.nilIface) (by kernel_rfl) s false;rw [hlk] at hr1;simp only [Bool.false_eq_true,if_false,iy,Slot.val] at hr1;have s0:=aa (o:=0) hb0 rfl;have s1:=aa (o:=1) hb0 rfl;have ch0:=h0.ker.ch;go_cut [4] (fun u wx=>u=c.val/\wx=W0.drew)
 case first=>
  go_region_law (fail)
  all_goals
   go_wp2;go_meet;case rel=>exact ⟨rfl,rfl⟩
 case rest=>
 obtain ⟨rfl,hW1⟩:=hcut;obtain ⟨W1,hWW⟩:∃W1,W1=wc:=⟨wc,rfl⟩;subst hWW;clear hr1 s0 s1 ch0;have hf1:Fr w W1 (fun _=>False):=by rw [hW1];exact hf0.drew
 have hb1:W1.heap[w.heap.size]?=some (.cells #[.int .i64 s.node,.int .i64 s.index] 71 (0,0)):=by rw [hW1];exact hb0
 have hs1:W1.heap.size=w.heap.size+1:=by rw [hW1];exact hs0
 clear hW1 hd0 h0 hb0 hs0 hf0;have h1:=h.frame hf1 (fun _ _=>id);have hd1:=h1.frame ((Fr.refl W1 (fun _=>False)).drew) (fun _ _=>id);obtain ⟨W2,hr2,hm2,hf2,hs2⟩:=hd1.ker.held.del_run (P:=Tryz.prog) (ty:=0) em Tryz.underlying59 s;simp only [Slot.val] at hr2;have s0:=aa (o:=0) hb1 rfl;have s1:=aa (o:=1) hb1 rfl;have ch1:=h1.ker.ch;go_upto_region 2 with fail
 go_cut [17] (fun _ wx=>wx=W2)
 case first=>
  go_region_law (fail)
  all_goals
   go_wp2;go_meet;case rel=>rfl
 case rest=>
 have hcut2:=hcut.symm;subst hcut2;clear hr2 s0 s1 ch1;have hFd:Fr w W1.drew (fun _=>False):=hf1.drew;have hK2:aq W2 kb {V with H:=j3 s V.H}:=hd1.ker.putH hm2 hf2;have hg2:ev W2:=(hgl.fr0 hFd).past hd1.ker.held hf2;have hb2:=hf2.same (w:=W1.drew) hb1 (by have:=h.ker.held.lt;omega);have hF2:Fr w W2 (V.fd kb):=(hFd.mono (fun _=>False.elim)).step hf2 (fun k hk=>.inl (.inl (.inr (.inl hk))))
 have hst:S.K.st=cx V.M:=by rw [<- h.eq];rfl
 obtain ⟨x',y',q1,q2,q3,q4,q5,q6⟩:=hT.full s c hc;have hsumx:=hlen s x' x'.parent y' q1 q2;rw [hst] at q1 q2;simp only [hst] at q6;obtain ⟨x,hx,rfl⟩:∃x,am s V.M=some x/\x.std=x':=by simpa [cx] using q1
 obtain ⟨y,hy,rfl⟩:∃y,am x.std.parent V.M=some y/\y.std=y':=by simpa [cx] using q2
 have hkids:∀c∈x.kids,(∃z,am c V.M=some z)/\c≠s:=fun k hk=>by
  obtain ⟨⟨z,hz⟩,h2⟩:=q6 k hk;refine ⟨?_,h2⟩;cases hl2:am k V.M with
  | none=>simp [cx,hl2] at hz
  | some z=>exact ⟨z,rfl⟩
 have hfd2:Fr W2 W2.drew (fun _=>False):=(Fr.refl _ _).drew;have hrem:=a53 V.M V.tb s x.parent x y W2.drew (hK2.tree.frame hfd2 (fun _ _=>id)) (hg2.fr0 hfd2) hx rfl hy q3 q4 q5 hkids hsumx;have s0:=aa (o:=0) hb2 rfl;have s1:=aa (o:=1) hb2 rfl;have ct2:=hK2.ct;have hz2:w.heap.size<=W2.heap.size:=hF2.size;have hdlt:∀k,V.dv.ownBlock=some k->k<w.heap.size:=fun k hk=>(h.d.lt k hk).2
 have hdn:∀k,V.dv.ownBlock=some k->¬V.fp kb k:=h.ap;have hd2:W2.ownsRow 0 116 2 V.dv S.D.length (ez S.D):=hf2.owns hd1.d (fun k hk e=>h.ap k hk (by rw [e];exact .inr (.inl rfl)))
 clear q1 q2 q3 q4 q5 q6 hb1 hs1 hd1 h1 hm2 hf2 hs2 hFd hf1;go_upto_region 3 with fail
 go_cut [24] (fun _ wx=>∃V1,KD wx kb ⟨mo S.K s,S.D⟩ V1/\Fr w wx (V.fd kb)/\(∀k,V1.fd kb k->V.fd kb k\/w.heap.size<=k))
 case first=>
  go_region_law (go_simp;go_at_call 110;refine hrem.mono ?_;rintro e W3 ⟨rfl,M',h3,hst3,hf3,hfp3⟩)
  all_goals
   go_wp2;go_meet;case rel=>
    have hF3:Fr W2 W3 (br V.tb V.M):=(hfd2.mono (fun _=>False.elim)).step hf3 (fun _ hk=>.inl hk);have hK3:=hK2.putM h3 hF3 hfp3;refine ⟨_,⟨hK3,?_,hF3.owns hd2 (fun k hk e=>hdn k hk (.inr (.inr (.inr (.inr (.inr (.inl e))))))),?_⟩,hF2.step hF3 (fun k hk=>.inl (.inl (.inr (.inr (.inr (.inr (.inr (.inl hk)))))))),?_⟩
    ·rw [<- h.eq];simp only [ah.ker,mo];congr 1;funext z;rw [j9 s z V.H h.ker.held.nodup];simp only [upd];by_cases e:z=s
     ·subst e;simp
     ·rw [if_neg (Ne.symm e),if_neg e]
    ·rintro k hk (e | e | e | e | e | e | e)
     ·exact hdn k hk (.inl e)
     ·exact hdn k hk (.inr (.inl e))
     ·exact hdn k hk (.inr (.inr (.inl e)))
     ·exact hdn k hk (.inr (.inr (.inr (.inl e))))
     ·exact hdn k hk (.inr (.inr (.inr (.inr (.inl e)))))
     ·rcases hfp3 k e with e | e
      ·exact hdn k hk (.inr (.inr (.inr (.inr (.inr (.inl e))))))
      ·have e':W2.heap.size<=k:=e;have:=hdlt k hk;omega
     ·exact hdn k hk (.inr (.inr (.inr (.inr (.inr (.inr e))))))
    ·rintro k ((e | e | e | e | e | e | e) | e)
     ·exact .inl (.inl (.inl e))
     ·exact .inl (.inl (.inr (.inl e)))
     ·exact .inl (.inl (.inr (.inr (.inl e))))
     ·exact .inl (.inl (.inr (.inr (.inr (.inl e)))))
     ·exact .inl (.inl (.inr (.inr (.inr (.inr (.inl e))))))
     ·rcases hfp3 k e with e | e
      ·exact .inl (.inl (.inr (.inr (.inr (.inr (.inr (.inl e)))))))
      ·have e':W2.heap.size<=k:=e;exact .inr (by omega)
     ·exact .inl (.inl (.inr (.inr (.inr (.inr (.inr (.inr e)))))))
     ·exact .inl (.inr e)
 case rest=>
 obtain ⟨V1,h1,hF1,hn1⟩:=hcut;clear hrem s0 s1 ct2 hK2 hb2 hd2 hfd2;have hgq:∀e q,(mo S.K s).qs e=some q->q.1.length<=64/\q.2.length<=64:=hq;have hpast:∀S2 w2 w3,Fr wc w2 (fun _=>False)->ic w2 kb V1 S2 w3->ic w kb V S2 w3:=fun S2 w2 w3 hf ⟨V3,k1,k2,k3⟩=>
  ⟨V3,k1,(hF1.step hf (fun _=>False.elim)).step k2 hn1,fun k hk=>by
   rcases k3 k hk with e | e
   ·exact hn1 k e
   ·exact .inr (Nat.le_trans (hF1.step hf (fun _=>False.elim)).size e)⟩
 have hstay:∀w2,Fr wc w2 (fun _=>False)->ic w kb V ⟨mo S.K s,S.D⟩ w2:=fun w2 hf=>⟨V1,h1.frame hf (fun _ _=>id),hF1.step hf (fun _=>False.elim),hn1⟩
 by_cases hh:yg (mo S.K s) c.ty c.base
 ·have hih:Calls Tryz.prog 111 #[.pointer (some ⟨kb,0,none⟩),c.val] wc fun e w'=>e=.returned (.bool true)/\Fr wc w' (fun _=>False):=by
   refine (am4 kb V1 c wc h1.ker).mono ?_;rintro e w' ⟨b,rfl,hb,hf⟩;rw [h1.eq] at hb;exact ⟨by rw [hb.2 hh],hf⟩
  have hS2:Hid (S2=⟨mo S.K s,S.D⟩):=by show _=_;rw [HS2.out,zh hc hh]
  clear hh;go_wp2_with (go_at_call 111;refine hih.mono ?_;rintro e W4 ⟨rfl,hf4⟩)
  refine bodyPost_ret (results_none rfl _ _ _) rfl ?_;exact ⟨rfl,by rw [hS2.out];exact hstay _ hf4⟩
 ·have hih:Calls Tryz.prog 111 #[.pointer (some ⟨kb,0,none⟩),c.val] wc fun e w'=>e=.returned (.bool false)/\Fr wc w' (fun _=>False):=by
   refine (am4 kb V1 c wc h1.ker).mono ?_;rintro e w' ⟨b,rfl,hb,hf⟩;rw [h1.eq] at hb;refine ⟨?_,hf⟩;cases b with
   | false=>rfl
   | true=>exact absurd (hb.1 rfl) hh
  have hS2:Hid (S2=bs5 ⟨mo S.K s,S.D⟩ c):=by show _=_;rw [HS2.out,ms hc hh]
  clear hh;cases c with
  | untyped b0 n0 m0=>
   simp only [KCap.val] at hih;simp only [KCap.val];go_wp2_with (go_at_call 111;refine hih.mono ?_;rintro e W4 ⟨rfl,hf4⟩)
   go_end0;exact ⟨rfl,by rw [hS2.out];exact hstay _ hf4⟩
  | frame b0 n0 m0=>
   simp only [KCap.val] at hih;simp only [KCap.val];go_wp2_with (go_at_call 111;refine hih.mono ?_;rintro e W4 ⟨rfl,hf4⟩)
   go_end0;exact ⟨rfl,by rw [hS2.out];exact hstay _ hf4⟩
  | node b0 n0 m0=>
   simp only [KCap.val] at hih;simp only [KCap.val];have hdo:∀W,Fr wc W (fun _=>False)->Calls Tryz.prog 114 #[.pointer (some ⟨kb,0,none⟩),.int .i64 b0] W fun e w'=>e=.returned (.tuple #[])/\ic w kb V ⟨aj3 (mo S.K s) b0,S.D++[(b0,bt (mo S.K s) b0)]⟩ w':=fun W hf=>by
    refine (bu2 kb _ V1 b0 W (h1.frame hf (fun _ _=>id)) hl).mono ?_;rintro e w' ⟨rfl,ho⟩;exact ⟨rfl,hpast _ _ _ hf ho⟩
   go_wp2_with (first
    |(go_at_call 111;refine hih.mono ?_;rintro e W4 ⟨rfl,hf4⟩)
    |(go_at_call 114;refine (hdo _ (hf4.alloc _)).mono ?_;rintro e W5 ⟨rfl,ho⟩))
   go_end0;exact ⟨rfl,by rw [hS2.out];exact ho⟩
  | task b0 n0 m0=>
   simp only [KCap.val] at hih;simp only [KCap.val];have hdo:∀W,Fr wc W (fun _=>False)->Calls Tryz.prog 113 #[.pointer (some ⟨kb,0,none⟩),.int .i64 b0] W fun e w'=>e=.returned (.tuple #[])/\ic w kb V ⟨a88 (mo S.K s) b0,S.D⟩ w':=fun W hf=>by
    refine (br5 kb _ V1 b0 W (h1.frame hf (fun _ _=>id)) hgq).mono ?_;rintro e w' ⟨rfl,ho⟩;exact ⟨rfl,hpast _ _ _ hf ho⟩
   go_wp2_with (first
    |(go_at_call 111;refine hih.mono ?_;rintro e W4 ⟨rfl,hf4⟩)
    |(go_at_call 113;refine (hdo _ (hf4.alloc _)).mono ?_;rintro e W5 ⟨rfl,ho⟩))
   go_end0;exact ⟨rfl,by rw [hS2.out];exact ho⟩
  | endpoint b0 n0 m0 g0=>
   simp only [KCap.val] at hih;simp only [KCap.val];have hdo:∀W,Fr wc W (fun _=>False)->Calls Tryz.prog 112 #[.pointer (some ⟨kb,0,none⟩),.int .i64 b0] W fun e w'=>e=.returned (.tuple #[])/\ic w kb V ⟨iu (mo S.K s) b0,S.D⟩ w':=fun W hf=>by
    refine (ax3 kb _ V1 b0 W (h1.frame hf (fun _ _=>id)) (hen _ _ _ _ rfl)).mono ?_;rintro e w' ⟨rfl,ho⟩;exact ⟨rfl,hpast _ _ _ hf ho⟩
   go_wp2_with (first
    |(go_at_call 111;refine hih.mono ?_;rintro e W4 ⟨rfl,hf4⟩)
    |(go_at_call 112;refine (hdo _ (hf4.alloc _)).mono ?_;rintro e W5 ⟨rfl,ho⟩))
   go_end0;exact ⟨rfl,by rw [hS2.out];exact ho⟩
def au0 (d:Int×Int):List Value:=[.int .i64 d.1,.int .i64 d.2]
theorem aa6 (d:Int×Int):(au0 d).length=2:=rfl
theorem ap0:∀A:List (Int×Int),(ez A).length=A.length*2
 | []=>rfl
 | d :: A=>by
  have h1:ez (d :: A)=au0 d++ez A:=rfl;rw [h1,List.length_append,ap0 A,aa6,List.length_cons];omega
theorem KD.last {w:World}{kb:Nat}{K:a_}{A:List (Int×Int)}{nd left:Int}{V:ah}(h:KD w kb ⟨K,A++[(nd,left)]⟩ V):
 ∃g cap,V.dv=.slice (some ⟨g,0,none⟩) (A.length+1) cap/\A.length+1<=cap/\cap<=maxLen/\g<w.heap.size/\w.cell? ⟨g,A.length*2,none⟩=some (.int .i64 nd)/\w.cell? ⟨g,A.length*2+1,none⟩=some (.int .i64 left)/\w.frozen? ⟨g,A.length*2+1,none⟩=false:=by
 have hdd:=h.d;simp only [List.length_append,List.length_cons,List.length_nil] at hdd;obtain ⟨g,cap,hd,hc,hm,hg⟩:=ep hdd (by omega);obtain ⟨cc,hcc⟩:∃cc,w.heap[g]?=some (.cells cc 116 (0,0)):=by
  rcases hdd.2 with ⟨h0,_⟩ | ⟨g',cap',cur,hv,_,hg2,_⟩
  ·rw [hd] at h0;cases h0
  ·rw [hd] at hv;cases hv;exact ⟨cur,hg2⟩
 have g0:=j8 au0 2 aa6 (A++[(nd,left)]) A.length 0 (by simp) (by omega);have g1:=j8 au0 2 aa6 (A++[(nd,left)]) A.length 1 (by simp) (by omega);simp only [List.getElem_concat_length,Nat.add_zero] at g0 g1;have c0:=hdd.cells (g:=g) (by rw [hd];rfl) (A.length*2) _ (by show ((A++[(nd,left)]).flatMap au0)[_]?=_;rw [g0];rfl);have c1:=hdd.cells (g:=g) (by rw [hd];rfl) (A.length*2+1) _ (by show ((A++[(nd,left)]).flatMap au0)[_]?=_;rw [g1];rfl);rw [mp] at c0 c1;exact ⟨g,cap,hd,hc,hm,hg,by simpa using c0,by simpa using c1,ab hcc⟩
theorem KD.cut {w:World}{kb:Nat}{K:a_}{A:List (Int×Int)}{nd left:Int}{V:ah}{g cap:Nat}(h:KD w kb ⟨K,A++[(nd,left)]⟩ V)(hd:V.dv=.slice (some ⟨g,0,none⟩) (A.length+1) cap):
 ic w kb V ⟨K,A⟩ (w.setCell ⟨kb,1027,none⟩ (.slice (some ⟨g,0,none⟩) A.length cap)):=by
 have hf:=Fr.set1 w kb 1027 (.slice (some ⟨g,0,none⟩) A.length cap);have hgk:¬V.fp kb g:=h.ap g (by rw [hd];rfl);have hdd:=h.d;simp only [List.length_append,List.length_cons,List.length_nil,Nat.zero_add] at hdd;rw [hd] at hdd;have ho:w.ownsRow 0 116 2 (.slice (some ⟨g,0,none⟩) A.length cap) A.length (ez A):=by
  rcases hdd.2 with ⟨h0,_⟩ | ⟨g',cap',cur,hv,hb,hg,h1,h2,h3,h4⟩
  ·cases h0
  ·cases hv
   have hlA:(ez A).length=A.length*2:=ap0 A;refine ⟨hlA,.inr ⟨g,cap,cur,rfl,hb,hg,by omega,h2,h3,?_⟩⟩;have h5:ez (A++[(nd,left)])=ez A++ez [(nd,left)]:=by simp [ez]
   have h6:cur.toList.take (A.length*2)=(cur.toList.take ((A.length+1)*2)).take (A.length*2):=by rw [List.take_take,Nat.min_eq_left (by omega)]
   have h4':cur.toList.take ((A.length+1)*2)=ez (A++[(nd,left)]):=by simpa using h4
   rw [h6,h4',h5,<- hlA,List.take_left]
 refine ⟨{V with dv:=.slice (some ⟨g,0,none⟩) A.length cap},⟨h.ker.putD _,h.eq,hf.owns ho (fun k hk e=>?_),fun k hk=>?_⟩,hf.mono (fun k hk=>.inl (.inl hk)),?_⟩
 ·have hk2:g=k:=by simpa [Value.ownBlock] using hk
  exact hgk (by rw [hk2,e];exact .inl rfl)
 ·have hk2:g=k:=by simpa [Value.ownBlock] using hk
  rw [<- hk2];exact hgk
 ·rintro k (e | e)
  ·exact .inl (.inl e)
  ·exact .inl (.inr (by rw [hd];exact e))
theorem KD.less {w:World}{kb:Nat}{K:a_}{A:List (Int×Int)}{nd left:Int}{V:ah}{g cap:Nat}(h:KD w kb ⟨K,A++[(nd,left)]⟩ V)(hd:V.dv=.slice (some ⟨g,0,none⟩) (A.length+1) cap)(v:Int):
 KD (w.setCell ⟨g,A.length*2+1,none⟩ (.int .i64 v)) kb ⟨K,A++[(nd,v)]⟩ V:=by
 have hf:=Fr.set1 w g (A.length*2+1) (.int .i64 v);have hgk:¬V.fp kb g:=h.ap g (by rw [hd];rfl);refine ⟨h.ker.frame hf (fun k hk e=>hgk (e▸hk)),h.eq,?_,h.ap⟩
 have hdd:=h.d;simp only [List.length_append,List.length_cons,List.length_nil] at hdd ⊢;rw [hd] at hdd ⊢;have:=eh hdd (A.length*2+1) (.int .i64 v);have h5:(ez (A++[(nd,left)])).set (A.length*2+1) (.int .i64 v)=ez (A++[(nd,v)]):=by
  have:=lg au0 2 aa6 (.int .i64 v) (nd,v) (A++[(nd,left)]) A.length 1 (by simp) (by omega) (by simp [au0]);rw [List.set_append_right _ _ (Nat.le_refl _)] at this;have h7:∀L,ez L=L.flatMap au0:=fun L=>rfl
  rw [h7,h7];simpa using this
 rw [h5] at this;exact this
theorem au4 (kb:Nat)(K:a_)(A:List (Int×Int))(nd:Int)(V:ah)(w:World)(h:KD w kb ⟨K,A++[(nd,0)]⟩ V)(hl:A.length<=900000):
 Calls Tryz.prog 93 #[.pointer (some ⟨kb,0,none⟩)] w fun e w'=>e=.returned (.tuple #[])/\ic w kb V ⟨K,A⟩ w':=by
 obtain ⟨g,cap,hd,hc,hm,hg,d0,d1,dz⟩:=h.last;have hcut:=h.cut hd;have hcd:=h.ker.cd;rw [hd] at hcd;have hz:w.frozen? ⟨kb,1027,none⟩=false:=by obtain ⟨c,hcc,_⟩:=h.ker.blk;exact ab hcc
 have hw1:IntKind.i64.wrap (((A.length+1:Nat):Int)-1)=(A.length:Int):=by rw [IntKind.wrap_i64];omega
 have hz1:(0:Int)<=(A.length:Int):=by omega
 have hz2:(A.length:Int)<((A.length+1:Nat):Int):=by omega
 have hz3:A.length<=cap:=by omega
 clear h hd hm;go_enter Tryz.func93,Tryz.ntmps93
 go_wp2;refine bodyPost_ret (results_none rfl _ _ _) rfl ?_;exact ⟨rfl,hcut⟩
end Go.Proofs.YtdpjgflemddekaaGreatDoor
