/- What the keeping statements' fixed calls come to, plainly: on the document's lists. Nothing of the program's text. -/
import Derived.Test.YtdpjgflemddekaaDoorMTalkP
import Derived.Test.YtdpjgflemddekaaDoorMInvF
import Derived.Test.YtdpjgflemddekaaDoorMKdoB
import Derived.Test.YtdpjgflemddekaaDoorMCodeZ1
import Derived.KernelRfl
set_option maxRecDepth 100000
set_option maxHeartbeats 4000000
namespace Go.Proofs.YtdpjgflemddekaaDoor
def bootRef:Ref:=⟨bootList,[⟨0,6⟩],[⟨64,1,0,0,0,0⟩]⟩
def bootRS:RS:=⟨bootRef,[],fun _=>0,[]⟩
theorem qag_nil {K:Ker}(h:∀b,K.qs b=none):QAg [] K:=
 ⟨fun b y e=>(by rw [h b] at e;cases e),fun _ hw=>(by cases hw),fun _ hw=>(by cases hw),List.nodup_nil⟩
theorem boot_ag:Ag bootRS ⟨bootK,[]⟩:=⟨boot_inv,rfl,fun _ _=>rfl,qag_nil (fun _=>rfl)⟩
def aft (S:RS)(th:Int)(c:Cl):RS:=(doRX S th c []).2.2
def sc1:Cl:=⟨1,[0],[5],1,6,1,0,0,0,0⟩
def sc2:Cl:=⟨1,[5],[6],5,2,1,0,0,0,0⟩
def sc3:Cl:=⟨10,[6],[],0,0,0,0,0,9,0⟩
def sc4:Cl:=⟨2,[6],[7],0,0,0,1,0,0,0⟩
def sc5:Cl:=⟨5,[7],[],0,0,0,0,0,0,0⟩
def sc6:Cl:=⟨9,[6],[],0,0,0,0,0,0,0⟩
def sc7:Cl:=⟨6,[5],[],0,0,0,0,0,0,0⟩
def su1:RS:=aft bootRS 64 sc1
def su2:RS:=aft su1 64 sc2
def su3:RS:=aft su2 64 sc3
def su4:RS:=aft su3 64 sc4
def su5:RS:=aft su4 64 sc5
def su6:RS:=aft su5 64 sc6
def su7:RS:=aft su6 64 sc7
def su8:RS:=aft su7 64 sc2
def su9:RS:=aft su8 64 sc6
theorem su_a1:(doRX bootRS 64 sc1 []).2.1=0:=by kernel_rfl
theorem su_a2:(doRX su1 64 sc2 []).2.1=0:=by kernel_rfl
theorem su_a3:(doRX su2 64 sc3 []).2.1=0:=by kernel_rfl
theorem su_w3:su3.ws 128=9:=by kernel_rfl
theorem su_a4:(doRX su3 64 sc4 []).2.1=0:=by kernel_rfl
theorem su_a5:(doRX su4 64 sc5 []).2.1=0:=by kernel_rfl
theorem su_a6:(doRX su5 64 sc6 []).1=9/\(doRX su5 64 sc6 []).2.1=0:=⟨by kernel_rfl,by kernel_rfl⟩
theorem su_a7:(doRX su6 64 sc7 []).2.1=0:=by kernel_rfl
theorem su_a8:(doRX su7 64 sc2 []).2.1=0:=by kernel_rfl
theorem su_a9:(doRX su8 64 sc6 []).1=0/\(doRX su8 64 sc6 []).2.1=0:=⟨by kernel_rfl,by kernel_rfl⟩
end Go.Proofs.YtdpjgflemddekaaDoor
namespace Go.Proofs.YtdpjgflemddekaaDoor
open Go.RowKit Go.Shelf
def KR (w0 w:World)(kb:Nat)(R:RS):Prop:=
 ∃S V,Ag R S/\(∀i,0<=R.ws i/\R.ws i<=4294967295)/\KDG w kb S V/\(∀k,V.fd kb k->w0.heap.size<=k)/\Fr w0 w (fun _=>False)
theorem KR.next {w0 w w':World}{kb:Nat}{R:RS}(h:KR w0 w kb R)(hf:Fr w w' (fun _=>False)):KR w0 w' kb R:=by
 obtain ⟨S,V,h1,h2,h3,h4,h5⟩:=h;exact ⟨S,V,h1,h2,h3.frame hf (fun _ _=>id) (fun _=>False.elim),h4,h5.step hf (fun _=>False.elim)⟩
theorem KR.base {w0 w:World}{kb:Nat}{R:RS}(h:KR w0 w kb R):Fr w0 w (fun _=>False):=by
 obtain ⟨S,V,h1,h2,h3,h4,h5⟩:=h;exact h5
theorem ints_one {w:World}{b:Nat}{x:Int}{t:TypeId}(h:w.heap[b]?=some (.cells #[.int .i64 x] t (0,0))):IntsAt w (.slice (some ⟨b,0,none⟩) 1 1) [x]:=by
 refine ⟨_,_,rfl,fun _=>⟨b,0,rfl,fun i hi=>?_⟩⟩
 have:i=0:=by simpa using hi
 subst this;exact cell_of_blk (o:=0) h rfl
theorem ints_nil (w:World):IntsAt w (.slice none 0 0) []:=⟨none,0,rfl,fun h=>absurd h (by decide)⟩
theorem kr_boot (w:World)(hgl:Glob w):Calls Tryd.prog 11 #[] w fun e w'=>∃kb,e=.returned (.pointer (some ⟨kb,0,none⟩))/\KR w w' kb bootRS:=by
 refine (boot_any w hgl.n0 hgl.n1).mono ?_;rintro e w' ⟨kb,V,h1,h2,h3,h4,h5,h6⟩;have hfd:∀k,V.fd kb k->w.heap.size<=k:=by
  rintro k (e | e)
  ·exact h5 k e
  ·rw [h4] at e;cases e
 have:=hgl.lt;refine ⟨kb,h1,⟨bootK,[]⟩,V,boot_ag,fun _=>⟨Int.le_refl 0,(by decide:(0:Int)<=4294967295)⟩,⟨⟨h2,h3,?_,fun k hk=>by rw [h4] at hk;cases hk⟩,Glob.fr hgl h6,fun k hk=>by have:=hfd k hk;omega⟩,hfd,h6⟩
 rw [h4];exact World.ownsRow_nil _ _ _ _
theorem KR.doB {w0 W1 W:World}{kb:Nat}{R:RS}(h:KR w0 W1 kb R)(hf:Fr W1 W (fun _=>False))(c:Cl)(th:Int){av tv bv:Value}{bs:List Bool}(hA:IntsAt W av c.at_)(hT:IntsAt W tv c.to)(hal:c.at_.length<=9000000000000000000)(htl:c.to.length<=9000000000000000000)
 (hac:∀A n cap,av=.slice A n cap->n<=cap) (htc:∀A n cap,tv=.slice A n cap->n<=cap) (hB:BitsAt W bv bs)
 (fa:0<c.at_.length->∀k,av.ownBlock=some k->k<w0.heap.size\/W1.heap.size<=k) (ft:0<c.to.length->∀k,tv.ownBlock=some k->k<w0.heap.size\/W1.heap.size<=k) (fb:0<bs.length->∀k,bv.ownBlock=some k->k<w0.heap.size\/W1.heap.size<=k) :
 Calls Tryd.prog 12 (doArgs kb th c av tv bv) W
  fun e w'=>e=.returned (.tuple #[.int .i64 (doRX R th c bs).1,.int .i64 (doRX R th c bs).2.1])/\KR w0 w' kb (doRX R th c bs).2.2/\Fr W w' (fun k=>w0.heap.size<=k/\k<W1.heap.size):=by
 obtain ⟨S,V,h1,h2,h3,h4,h5⟩:=h;have h3w:=h3.frame hf (fun _ _=>id) (fun _=>False.elim);have far:∀k,(k<w0.heap.size\/W1.heap.size<=k)->¬V.fd kb k:=fun k hk e=>by have:=h4 k e;have:=h3.lt e;omega
 refine (kdo_b S V kb c av tv bv bs th W ⟨⟨h3w,⟨_,h1⟩,hA,hT,hal,htl,hac,htc,fun h0 k hk=>far k (fa h0 k hk),fun h0 k hk=>far k (ft h0 k hk)⟩,hB,fun h0 k hk=>far k (fb h0 k hk)⟩ (fun i hi=>by rw [<- h1.ws i hi];exact h2 i)).mono ?_
 rintro e w' ⟨he,ho⟩;obtain ⟨g1,g2,g3,g4⟩:=do_agreeX h1 th c bs;rw [<- g1,<- g2] at he;refine ⟨he,?_⟩;generalize (doKX S th c bs).2.2=S' at g3 ho;obtain ⟨V',a1,a4,a5⟩:=ho;exact ⟨⟨S',V',g3,doRX_ws R th c bs h2,a1,fun k hk=>(a5 k hk).elim (h4 k) (fun h=>Nat.le_trans (h5.step hf (fun _=>False.elim)).size h),(h5.step hf (fun _=>False.elim)).step a4 (fun k hk=>.inr (h4 k hk))⟩,a4.mono (fun k hk=>⟨h4 k hk,h3.lt hk⟩)⟩
theorem own_at {b n c k:Nat}(hk:(Value.slice (some ⟨b,0,none⟩) n c).ownBlock=some k):b=k:=by simpa [Value.ownBlock] using hk
theorem KR.do2 {w0 W1 W:World}{kb bA bT:Nat}{R:RS}(h:KR w0 W1 kb R)(hf:Fr W1 W (fun _=>False))(c:Cl)(th a b:Int)(hca:c.at_=[a])(hcb:c.to=[b])(lA:W1.heap.size<=bA)(lT:W1.heap.size<=bT){t t':TypeId}
 (hA:W.heap[bA]?=some (.cells #[.int .i64 a] t (0,0))) (hT:W.heap[bT]?=some (.cells #[.int .i64 b] t' (0,0))) :
 Calls Tryd.prog 12 (doArgs kb th c (.slice (some ⟨bA,0,none⟩) 1 1) (.slice (some ⟨bT,0,none⟩) 1 1) (.slice none 0 0)) W
  fun e w'=>e=.returned (.tuple #[.int .i64 (doRX R th c []).1,.int .i64 (doRX R th c []).2.1])/\KR w0 w' kb (aft R th c):=by
 refine (h.doB hf c th (bs:=[]) (by rw [hca];exact ints_one hA) (by rw [hcb];exact ints_one hT) (by rw [hca];exact (by decide:1<=9000000000000000000)) (by rw [hcb];exact (by decide:1<=9000000000000000000)) (fun _ _ _ e=>by cases e;decide) (fun _ _ _ e=>by cases e;decide) (BitsAt.none _ _ _) (fun _ k hk=>.inr (by rw [<- own_at hk];exact lA)) (fun _ k hk=>.inr (by rw [<- own_at hk];exact lT)) (fun h0=>absurd h0 (by decide))).mono ?_
 rintro e w' ⟨he,ho,_⟩;exact ⟨he,ho⟩
theorem KR.do1 {w0 W1 W:World}{kb bA:Nat}{R:RS}(h:KR w0 W1 kb R)(hf:Fr W1 W (fun _=>False))(c:Cl)(th a:Int)(hca:c.at_=[a])(hcb:c.to=[])(lA:W1.heap.size<=bA){t:TypeId}
 (hA:W.heap[bA]?=some (.cells #[.int .i64 a] t (0,0))) :
 Calls Tryd.prog 12 (doArgs kb th c (.slice (some ⟨bA,0,none⟩) 1 1) (.slice none 0 0) (.slice none 0 0)) W
  fun e w'=>e=.returned (.tuple #[.int .i64 (doRX R th c []).1,.int .i64 (doRX R th c []).2.1])/\KR w0 w' kb (aft R th c):=by
 refine (h.doB hf c th (bs:=[]) (by rw [hca];exact ints_one hA) (by rw [hcb];exact ints_nil W) (by rw [hca];exact (by decide:1<=9000000000000000000)) (by rw [hcb];exact (by decide:0<=9000000000000000000)) (fun _ _ _ e=>by cases e;decide) (fun _ _ _ e=>by cases e;decide) (BitsAt.none _ _ _) (fun _ k hk=>.inr (by rw [<- own_at hk];exact lA)) (fun _ k hk=>by cases hk) (fun h0=>absurd h0 (by decide))).mono ?_
 rintro e w' ⟨he,ho,_⟩;exact ⟨he,ho⟩
theorem KR.thread {w0 W:World}{kb:Nat}{R:RS}(h:KR w0 W kb R)(b:Int):
 Calls Tryd.prog 14 #[.pointer (some ⟨kb,0,none⟩),.int .i64 b] W fun e w'=>e=thdAns ((R.R.T.find? (isBaseT b)).map Thr.thd)/\Fr W w' (fun _=>False):=by
 obtain ⟨⟨K,D⟩,V,h1,h2,h3,h4,h5⟩:=h;refine (kthread_any V kb b W h3.kd.ker).mono ?_;rintro e w' ⟨he,hf⟩;refine ⟨?_,hf⟩;rw [he,show V.ker=K from h3.kd.eq,h1.core.rel.thr]
theorem KR.word {w0 W:World}{kb:Nat}{R:RS}(h:KR w0 W kb R)(n:Int)(hn:0<=n/\n<1024):
 Calls Tryd.prog 24 #[.pointer (some ⟨kb,0,none⟩),.int .i64 n] W fun e w'=>e=.returned (.tuple #[.int .i64 (R.ws n.toNat),.int .i64 0])/\w'=W:=by
 obtain ⟨⟨K,D⟩,V,h1,h2,h3,h4,h5⟩:=h;have hv:∀i,i<1024->V.ws i=R.ws i:=fun i hi=>by rw [h1.ws i hi,<- show V.ker=K from h3.kd.eq];rfl
 refine (kword_any V kb n W h3.kd.ker (fun i hi=>by rw [hv i hi];exact h2 i)).mono ?_;rintro e w' ⟨he,hf⟩;refine ⟨?_,hf⟩;rw [he];unfold wordAns;rw [if_pos hn,hv _ (by omega)]
theorem KR.caps {w0 W:World}{kb:Nat}{R:RS}(h:KR w0 W kb R)(hgl:Glob w0):
 Calls Tryd.prog 16 #[.pointer (some ⟨kb,0,none⟩)] W fun e w'=>∃v,e=.returned v/\w'.ownsRow W.heap.size 53 10 v R.R.L.length (rowA (capsTo R.R.L R.R.L.length))/\Fr W w' (fun _=>False):=by
 obtain ⟨⟨K,D⟩,V,h1,h2,h3,h4,h5⟩:=h;have hK:V.ker=K:=h3.kd.eq;subst hK;obtain ⟨F,hF⟩:=h1.core.rel.tree;obtain ⟨y,hy,hk⟩:=hF.roots;obtain ⟨x,hx,hp,hkx⟩:=look_of_st (V:=V) (s:=nowhere) (x:=y) hy;have hcaps:=h1.core.rel.caps hF;have hl:F.slots.length=R.R.L.length:=by rw [hF.slots];simp
 refine (kcaps_any V kb W h3.kd.ker (Glob.fr hgl h5) F x hF.stands hx (hkx.trans hk) (fun s hs=>(mem_slots h1.core.rel hF).1 hs) (by have:=h1.core.len;omega)).mono ?_
 rintro e w' ⟨v,he,ho,hf⟩;refine ⟨v,he,?_,hf⟩;rw [hcaps,hl] at ho;exact ho
def pickI (c n:Int):Int:=(if c<0 then -(c+1) else c) % n
theorem pickI_lt (c n:Int)(hn:0<n):0<=pickI c n/\pickI c n<n:=by
 unfold pickI;exact ⟨Int.emod_nonneg _ (by omega),Int.emod_lt_of_pos _ hn⟩
theorem pick_any (c n:Int)(w:World)(h0:-9223372036854775808<=c)(h1:c<=9223372036854775807)(hn:0<n)(hn1:n<=4294967296):
 Calls Tryd.prog 13 #[.int .i64 c,.int .i64 n] w fun e w'=>e=.returned (.int .i64 (pickI c n))/\w'=w:=by
 by_cases hc:c<0
 ·have HP:Hid (pickI c n=-((c+1).tmod n)):=by show _=_;unfold pickI;rw [if_pos hc,<- Int.tmod_eq_emod_of_nonneg (by omega),Int.neg_tmod]
  go_enter Tryd.func13,Tryd.ntmps13
  go_wp2;go_ret;exact ⟨by rw [HP.out];rfl,rfl⟩
 ·have HP:Hid (pickI c n=c % n):=by show _=_;unfold pickI;rw [if_neg hc]
  go_enter Tryd.func13,Tryd.ntmps13
  go_wp2;go_ret;exact ⟨by rw [HP.out];rfl,rfl⟩
theorem two_new (W:World)(o o':Obj):((W.alloc o).alloc o').heap[W.heap.size]?=some o/\((W.alloc o).alloc o').heap[W.heap.size+1]?=some o':=by
 have h:=heap_alloc_new (W.alloc o) o';rw [World.size_alloc] at h;exact ⟨((Fr.refl (W.alloc o) (fun _=>False)).alloc o').same (heap_alloc_new W o) id,h⟩
theorem KR.call2 {w0 W:World}{kb:Nat}{R:RS}(h:KR w0 W kb R)(c:Cl)(th a b:Int)(hca:c.at_=[a])(hcb:c.to=[b]):
 Calls Tryd.prog 12 (doArgs kb th c (.slice (some ⟨W.heap.size,0,none⟩) 1 1) (.slice (some ⟨W.heap.size+1,0,none⟩) 1 1) (.slice none 0 0)) ((W.alloc (.cells #[.int .i64 a] 3)).alloc (.cells #[.int .i64 b] 3))
  fun e w'=>e=.returned (.tuple #[.int .i64 (doRX R th c []).1,.int .i64 (doRX R th c []).2.1])/\KR w0 w' kb (aft R th c):=
 h.do2 (((Fr.refl _ _).alloc _).alloc _) c th a b hca hcb (Nat.le_refl _) (by omega) (two_new W _ _).1 (two_new W _ _).2
theorem KR.call1 {w0 W:World}{kb:Nat}{R:RS}(h:KR w0 W kb R)(c:Cl)(th a:Int)(hca:c.at_=[a])(hcb:c.to=[]):
 Calls Tryd.prog 12 (doArgs kb th c (.slice (some ⟨W.heap.size,0,none⟩) 1 1) (.slice none 0 0) (.slice none 0 0)) (W.alloc (.cells #[.int .i64 a] 3))
  fun e w'=>e=.returned (.tuple #[.int .i64 (doRX R th c []).1,.int .i64 (doRX R th c []).2.1])/\KR w0 w' kb (aft R th c):=
 h.do1 ((Fr.refl _ _).alloc _) c th a hca hcb (Nat.le_refl _) (heap_alloc_new _ _)
end Go.Proofs.YtdpjgflemddekaaDoor
namespace Go.Proofs.YtdpjgflemddekaaDoor
open Go.RowKit
structure AEntAt (w:World)(g o:Nat)(e:AEnt):Prop where
 c3:w.cell? ⟨g,o+3,none⟩=some (.int .i64 e.base)
 c8:w.cell? ⟨g,o+8,none⟩=some (.int .i64 e.parent)
 c9:w.cell? ⟨g,o+9,none⟩=some (.int .i64 e.place)
theorem aentAt {w:World}{g:Nat}{L:List AEnt}(h:∀i (hi:i<L.length) j x,(L[i].vals)[j]?=some x->w.cell? ⟨g,i*10+j,none⟩=some x)(i:Nat)(hi:i<L.length):AEntAt w g (i*10) L[i]:=
 ⟨h i hi 3 _ rfl,h i hi 8 _ rfl,h i hi 9 _ rfl⟩
theorem su_len:su9.R.L.length=5:=by kernel_rfl
theorem su_clen:(capsTo su9.R.L 5).length=5:=by kernel_rfl
theorem su_c3:((capsTo su9.R.L 5)[3]'(by rw [su_clen];decide)).base=128:=by kernel_rfl
theorem su_c4:((capsTo su9.R.L 5)[4]'(by rw [su_clen];decide)).base=128/\((capsTo su9.R.L 5)[4]'(by rw [su_clen];decide)).parent=0/\((capsTo su9.R.L 5)[4]'(by rw [su_clen];decide)).place=5:=⟨by kernel_rfl,by kernel_rfl,by kernel_rfl⟩
structure CapsS (w:World)(g:Nat):Prop where
 b3:w.cell? ⟨g,33,none⟩=some (.int .i64 128)
 b4:w.cell? ⟨g,43,none⟩=some (.int .i64 128)
 p4:w.cell? ⟨g,48,none⟩=some (.int .i64 0)
 l4:w.cell? ⟨g,49,none⟩=some (.int .i64 5)
theorem sure_caps {w0:World}(hgl:Glob w0)(W:World)(kb:Nat)(h:KR w0 W kb su9):
 Calls Tryd.prog 16 #[.pointer (some ⟨kb,0,none⟩)] W fun e w'=>∃g cap,e=.returned (.slice (some ⟨g,0,none⟩) 5 cap)/\CapsS w' g/\Fr W w' (fun _=>False):=by
 refine (h.caps hgl).mono ?_;rintro e w' ⟨v,he,ho,hf⟩;rw [su_len] at ho;have hcl:=su_clen;obtain ⟨A,cap,hv,hA⟩:=lies_of_owns (f:=AEnt.vals) AEnt.vals_len (L:=capsTo su9.R.L 5) (by rw [hcl];exact ho);rw [hcl] at hv;obtain ⟨g,rfl,hc⟩:=hA (by rw [hcl];decide);have e3:=aentAt hc 3 (by rw [hcl];decide);have e4:=aentAt hc 4 (by rw [hcl];decide);obtain ⟨x1,x2,x3⟩:=su_c4;refine ⟨g,cap,by rw [he,hv],⟨?_,?_,?_,?_⟩,hf⟩
 ·have:=e3.c3;rw [su_c3] at this;exact this
 ·have:=e4.c3;rw [x1] at this;exact this
 ·have:=e4.c8;rw [x2] at this;exact this
 ·have:=e4.c9;rw [x3] at this;exact this
theorem sure_any (w:World)(hgl:Glob w):
 Calls Tryd.prog 10 #[] w fun e w'=>e=.returned (.bool true)/\Fr w w' (fun _=>False):=by
 go_enter Tryd.func10,Tryd.ntmps10
 go_upto_region 4 with (go_at_call 11;refine (kr_boot _ hgl).mono ?_;rintro e W1 ⟨kb,rfl,h1⟩)
 go_upto_region 5 with (go_at_call 12;refine (h1.call2 sc1 64 0 5 rfl rfl).mono ?_;rintro e W2 ⟨he,h2⟩;rw [su_a1] at he;subst he)
 clear h1;go_upto_region 6 with (go_at_call 12;refine (KR.call2 (R:=su1) h2 sc2 64 5 6 rfl rfl).mono ?_;rintro e W3 ⟨he,h3⟩;rw [su_a2] at he;subst he)
 clear h2;go_upto_region 7 with (go_at_call 12;refine (KR.call1 (R:=su2) h3 sc3 64 6 rfl rfl).mono ?_;rintro e W4 ⟨he,h4⟩;rw [su_a3] at he;subst he)
 clear h3;go_upto_region 8 with (go_at_call 24;refine (KR.word (R:=su3) h4 128 (by decide)).mono ?_;rintro e W4' ⟨he,rfl⟩;rw [show su3.ws (Int.toNat 128)=9 from su_w3] at he;subst he)
 go_upto_region 9 with (go_at_call 12;refine (KR.call2 (R:=su3) h4 sc4 64 6 7 rfl rfl).mono ?_;rintro e W5 ⟨he,h5⟩;rw [su_a4] at he;subst he)
 clear h4;go_upto_region 10 with (go_at_call 12;refine (KR.call1 (R:=su4) h5 sc5 64 7 rfl rfl).mono ?_;rintro e W6 ⟨he,h6⟩;rw [su_a5] at he;subst he)
 clear h5;go_upto_region 11 with (go_at_call 12;refine (KR.call1 (R:=su5) h6 sc6 64 6 rfl rfl).mono ?_;rintro e W7 ⟨he,h7⟩;rw [su_a6.1,su_a6.2] at he;subst he)
 clear h6;go_upto_region 12 with (go_at_call 12;refine (KR.call1 (R:=su6) h7 sc7 64 5 rfl rfl).mono ?_;rintro e W8 ⟨he,h8⟩;rw [su_a7] at he;subst he)
 clear h7;go_upto_region 13 with (go_at_call 12;refine (KR.call2 (R:=su7) h8 sc2 64 5 6 rfl rfl).mono ?_;rintro e W9 ⟨he,h9⟩;rw [su_a8] at he;subst he)
 clear h8;go_upto_region 14 with (go_at_call 12;refine (KR.call1 (R:=su8) h9 sc6 64 6 rfl rfl).mono ?_;rintro e W10 ⟨he,h10⟩;rw [su_a9.1,su_a9.2] at he;subst he)
 clear h9;go_upto_region 15 with (go_at_call 16;refine (sure_caps hgl _ kb h10).mono ?_;rintro e W11 ⟨g,cap,rfl,h11,hf11⟩)
 have hF:=h10.base.step hf11 (fun _=>False.elim);clear h10;obtain ⟨m1,m2,m3,m4⟩:=h11;go_wp2;go_ret;exact ⟨rfl,hF⟩
end Go.Proofs.YtdpjgflemddekaaDoor
