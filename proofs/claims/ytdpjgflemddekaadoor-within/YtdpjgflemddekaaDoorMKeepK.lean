/- The keeping statements: played. -/
import Derived.Test.YtdpjgflemddekaaDoorMKeepG
import Derived.Test.YtdpjgflemddekaaDoorMKeepV
set_option maxRecDepth 100000
set_option maxHeartbeats 40000000
namespace Go.Proofs.YtdpjgflemddekaaDoor
open Go.RowKit Go.Shelf
structure bi4 (w:World)(g o:Nat)(x:j8):Prop where
 ok:x.Ok
 c0:w.cell? ⟨g,o,none⟩=some (.int .i64 x.thread)
 c1:w.cell? ⟨g,o+1,none⟩=some (.int .i64 x.kind)
 c2:w.cell? ⟨g,o+2,none⟩=some (.int .i64 x.a)
 c3:w.cell? ⟨g,o+3,none⟩=some (.int .i64 x.b)
 c4:w.cell? ⟨g,o+4,none⟩=some (.int .i64 x.c)
 c5:w.cell? ⟨g,o+5,none⟩=some (.int .i64 x.d)
 c6:∃bv,w.cell? ⟨g,o+6,none⟩=some bv/\fj w bv x.bits
def ol (w:World)(v:Value)(l:List j8):Prop:=
 ∃P cap,v=.slice P l.length cap/\(0<l.length->∃g o,P=some ⟨g,o,none⟩/\∀i (hi:i<l.length),bi4 w g (o+i*7) l[i])
theorem bi4.fr {w w':World}{g o:Nat}{x:j8}(h:bi4 w g o x)(hf:Fr w w' (fun _=>False)):bi4 w' g o x:=by
 obtain ⟨bv,h1,h2⟩:=h.c6;exact ⟨h.ok,hf.cell h.c0 id,hf.cell h.c1 id,hf.cell h.c2 id,hf.cell h.c3 id,hf.cell h.c4 id,hf.cell h.c5 id,bv,hf.cell h1 id,h2.fr hf⟩
theorem ol.fr {w w':World}{v:Value}{l:List j8}(h:ol w v l)(hf:Fr w w' (fun _=>False)):ol w' v l:=by
 obtain ⟨P,cap,e,hA⟩:=h;refine ⟨P,cap,e,fun h0=>?_⟩
 obtain ⟨g,o,e2,hc⟩:=hA h0;exact ⟨g,o,e2,fun i hi=>(hc i hi).fr hf⟩
theorem Ag.lenL {R:RS}{S:KS}(h:Ag R S):(capsL R).length<=1000000/\R.D.length<=1000000:=by
 rw [e_];have:=h.core.len;have:=h.core.lenD;omega
theorem KR.ag {w0 W:World}{kb:Nat}{R:RS}(h:KR w0 W kb R):∃S,Ag R S:=by
 obtain ⟨S,V,h1,_⟩:=h;exact ⟨S,h1⟩
theorem xn {α:Type}{w:World}{f:α->List Value}{k:Nat}{v:Value}{L:List α}(h:jx w f k v L):∃A cap,v=.slice A L.length cap:=by
 obtain ⟨A,cap,e,_⟩:=h;exact ⟨A,cap,e⟩
def CU (R:RS):Prop:=∃S,Ag R S/\qt S
theorem b15:CU ql:=by
 refine ⟨⟨nu,[]⟩,au_,?_⟩;intro s b n m e i h1 h2;rfl
theorem as3 {A:List ee}{ty b:Int}:∀(k:Nat),k<=A.length->∀p (hp:p<A.length),p<k->ik ty b A[p]=true->bq A ty b k=true
 | 0,_,p,hp,h,_=>by omega
 | k+1,hk,p,hp,h,hs=>by
  have e:bq A ty b (k+1)=(bq A ty b k || ik ty b A[k]):=by simp [bq,List.getElem?_eq_getElem (show k<A.length from hk)]
  rw [e];by_cases hpk:p=k
  ·subst hpk;rw [hs];simp
  ·rw [as3 k (by omega) p hp (by omega) hs];rfl
theorem b47 {R R':RS}{S S':KS}(h:Ag R S)(h':Ag R' S')(hc:qt S')(hf:wj S S'):bf3 R'.ws (capsL R) (capsL R'):=by
 refine ⟨?_,?_,?_⟩
 ·intro i hi;obtain ⟨c,x,hr⟩:=h'.row i hi;have:=h'.core.cap _ c hr.held;rw [hr.base,hr.bits,hr.mark];exact this
 ·intro i hi ht n h1 h2;obtain ⟨c,x,hr⟩:=h'.row i hi;have hcap:=h'.core.cap _ c hr.held;rw [hr.ty] at ht;rw [hr.base,hr.mark] at h1;rw [hr.base,hr.bits] at h2;rw [h'.ws _ (by omega)];cases c with
  | untyped b' n' m'=>exact hc _ _ _ _ hr.held n h1 h2
  | _=>cases ht
 ·intro i hi ht ho n h1 h2;obtain ⟨c,x,hr⟩:=h'.row i hi;have hcap:=h'.core.cap _ c hr.held;rw [hr.ty] at ht;rw [hr.base] at h1 ho;rw [hr.base,hr.bits] at h2;rw [h'.ws _ (by omega)];cases c with
  | frame b' n' r'=>
   rcases hf _ _ _ _ hr.held with ⟨s,n0,r0,e0⟩ | e0
   ·exfalso
    obtain ⟨p,hp,q1,q2,_⟩:=h.rowOf e0;have:bq (capsL R) 5 b' (capsL R).length=true:=as3 _ (Nat.le_refl _) p hp hp (by simp only [ik,Bool.and_eq_true,beq_iff_eq];exact ⟨q1,q2⟩);rw [show (KCap.frame b' n' r').base=b' from rfl,this] at ho;cases ho
   ·exact e0 n h1 h2
  | _=>cases ht
theorem jx.frk {α:Type}{w w':World}{f:α->List Value}{k:Nat}{v:Value}{L:List α}{S:Nat->Prop}(h:jx w f k v L)(hf:Fr w w' S)(hs:∀j,v.ownBlock=some j->¬S j):jx w' f k v L:=by
 obtain ⟨A,cap,e,hA⟩:=h;refine ⟨A,cap,e,fun h0=>?_⟩
 obtain ⟨g,e2,hc⟩:=hA h0;exact ⟨g,e2,fun i hi j x hx=>hf.cell (hc i hi j x hx) (hs g (by rw [e,e2];rfl))⟩
def ao3 (w:World)(kb:Nat)(w':World):Prop:=∃W1 R,Fr w W1 (fun _=>False)/\fm W1/\KR W1 w' kb R
def bf9 (R:RS)(x:j8):RS:=(ew R (bb_ R x.thread) (bn1 x) x.bits).2.2
def jl (l:List j8)(i:Nat):RS:=(l.take i).foldl bf9 ql
theorem ad8 (l:List j8)(i:Nat)(h:i<l.length):jl l (i+1)=bf9 (jl l i) l[i]:=by
 unfold jl;rw [List.take_succ_eq_append_getElem h,List.foldl_append];rfl
theorem a84 (l:List j8)(i:Nat)(h:l.length<=i)(hi:i<=300):jl l i=jl l 300:=by
 unfold jl;rw [List.take_of_length_le h,List.take_of_length_le (by omega)]
def ag_ (l:List j8)(w:World)(kb:Nat)(w':World):Prop:=∃W1,Fr w W1 (fun _=>False)/\fm W1/\KR W1 w' kb (jl l 300)
theorem am9 (aq:Int)(hlook:aq=0\/aq=1\/aq=3\/aq=4\/aq=2)(v:Value)(l:List j8)(w:World)(hgl:fm w)(hl:ol w v l)(hn:l.length<=9223372036854775807):
 Calls Tryd.prog 15 #[v,.int .i64 aq] w fun e w'=>∃kb,e=.returned (.pointer (some ⟨kb,0,none⟩))/\ag_ l w kb w':=by
 go_enter Tryd.func15,Tryd.ntmps15
 go_upto_region 2 with (go_at_call 10;refine (a03 _ hgl).mono ?_;rintro e W1 ⟨rfl,hf1⟩)
 have hgl1:fm W1:=fm.fr hgl hf1;go_upto_region 3 with (go_at_call 11;refine (aw4 _ hgl1).mono ?_;rintro e W2 ⟨kb,rfl,hK⟩)
 have hl1:=hl.fr hf1;clear hl;obtain ⟨P,cap,rfl,hA⟩:=hl1;go_wp2;go_loopw [7] (fun iv w'=>∃i:Nat,iv=.int .i64 i/\i<=300/\∃R,KR W1 w' kb R/\CU R/\Hid (R=jl l i)) (fun iv _=>300-(intOf iv).toNat)
 case atStart=>exact ⟨0,rfl,by omega,_,hK,b15,(by show _=_;rfl)⟩
 case round=>
  clear hK;obtain ⟨i,rfl,hi,R,hK,hCU,HR⟩:=hrel;by_cases hlt:i<l.length/\i<300
  ·obtain ⟨hlt,hi3⟩:=hlt;obtain ⟨g,o,rfl,hc⟩:=hA (by omega);have hact:=hc i hlt;clear hA hc;go_upto_region 9 with (go_at_call 16;refine (hK.capsL hgl1).mono ?_;rintro e W3 ⟨vb,rfl,hvb,hvk,hf3⟩)
   have hF3:=hK.base.step hf3 (fun _=>False.elim);have hact3:=hact.fr hF3;have hok:=hact.ok;obtain ⟨bv,hb6,hB⟩:=hact.c6;have hb63:=hF3.cell hb6 id;obtain ⟨_,s0,s1,s2,s3,s4,s5,_⟩:=hact3;have hcall:=fun W=>au9 l[i] bv W hok
   have hact2:=fun W (hW:Fr wr W (fun _=>False))=>b66 hK hW l[i] bv hok hB
   unfold j8.val at hcall hact2;have hdo:=fun W (hW:Fr wr W (fun _=>False))=>(hK.next hW).doomed
   clear hact hb6 hB;generalize l[i].thread=x0 at *
   generalize l[i].a=x2 at *
   generalize l[i].b=x3 at *
   generalize l[i].c=x4 at *
   generalize l[i].d=x5 at *
   generalize hx1:l[i].kind=x1 at *
   go_cut [9] (fun v9 wx=>∃b,v9=.bool b/\(b=false->R.D=[]\/1+dq x1 11≠1)/\Fr W3 wx (fun _=>False))
   case first=>
    by_cases hD:R.D.length=0
    ·go_wp2_with (go_at_call 17;refine (hdo _ hf3).mono ?_;rintro e W4 ⟨vd,rfl,hvd,hf4⟩;obtain ⟨Ad,capd,rfl⟩:=xn hvd;rw [hD])
     go_meet;case rel=>exact ⟨_,rfl,fun _=>.inl (List.eq_nil_of_length_eq_zero hD),hf4⟩
    ·have hD2:0<R.D.length:=by omega
     have hfld:∀(k:Int) (av tv:Value) (x3 x4 x5 x6 x7 x8 x9:Int) (W:World),(Instr.field 30 (.agg #[.int .i64 k,av,tv,.int .i64 x3,.int .i64 x4,.int .i64 x5,.int .i64 x6,.int .i64 x7,.int .i64 x8,.int .i64 x9]) 0).run Tryd.prog W=.ok (.int .i64 k) W:=fun _ _ _ _ _ _ _ _ _ _ _=>by kernel_rfl
     go_wp2_with (first
      |(go_at_call 17;refine (hdo _ hf3).mono ?_;rintro e W4 ⟨vd,rfl,hvd,hf4⟩;obtain ⟨Ad,capd,rfl⟩:=xn hvd;have r0:=hf4.cell s0 id;have r1:=hf4.cell s1 id;have r2:=hf4.cell s2 id;have r3:=hf4.cell s3 id;have r4:=hf4.cell s4 id;have r5:=hf4.cell s5 id;have r6:=hf4.cell hb63 id)
      |(go_at_call 18;refine (hcall _).mono ?_;rintro e W5 ⟨c,av,tv,rfl,ho⟩;unfold Cl.cells;have hF5:=hf4.step ho.fr (fun _=>False.elim)))
     go_meet;case rel=>exact ⟨_,rfl,fun hb=>.inr (by rw [<- hx1,<- ho.kind];simpa using hb),hF5⟩
   case rest=>
    obtain ⟨b,rfl,hbn,hf4⟩:=hcut;have hF4:=hf3.step hf4 (fun _=>False.elim);have r0:=hf4.cell s0 id;have r1:=hf4.cell s1 id;have r2:=hf4.cell s2 id;have r3:=hf4.cell s3 id;have r4:=hf4.cell s4 id;have r5:=hf4.cell s5 id;have r6:=hf4.cell hb63 id;clear s0 s1 s2 s3 s4 s5 hb63 hcall hdo;have hvb4:=hvb.fr hf4;clear hvb;go_upto_region 11 with (go_at_call 30;refine (hact2 _ hF4).mono ?_;rintro e W5 ⟨y,rfl,th,c,hck,hK5,hf5,Hth⟩)
    clear r0 r1 r2 r3 r4 r5 r6 hact2;obtain ⟨S0,hag0,hcl0⟩:=hCU;obtain ⟨hcl5,hfl5⟩:=b61 hag0 hcl0 th c l[i].bits;have hCU5:CU (ew R th c l[i].bits).2.2:=⟨_,(od hag0 th c l[i].bits).2.2.1,hcl5⟩;have hcln:bf3 (ew R th c l[i].bits).2.2.ws (capsL R) (capsL (ew R th c l[i].bits).2.2):=b47 hag0 (od hag0 th c l[i].bits).2.2.1 hcl5 hfl5;clear hcl0 hcl5 hfl5;obtain ⟨hn3,_⟩:=hag0.lenL;have hnm:b=false->au7 (capsL R) (capsL (ew R th c l[i].bits).2.2):=fun hb=>by
     refine Proofs.YtdpjgflemddekaaDoor.noMoreA hag0 (od hag0 th c l[i].bits).2.2.1 (by2 hag0 th c l[i].bits ?_);rcases hbn hb with e | e
     ·exact .inl (hag0.d.trans e)
     ·exact .inr (by rw [hck,hx1];exact e)
    clear hbn hag0 hK;have hvb5:=hvb4.frk hf5 (fun k hk e=>by have:=hvk k hk;omega);clear hvb4;obtain ⟨R5,hR5⟩:∃R5,(ew R th c l[i].bits).2.2=R5:=⟨_,rfl⟩;rw [hR5] at hK5 hCU5 hcln;simp only [hR5] at hnm;have HR5:Hid ((ew R th c l[i].bits).2.2=R5):=hR5;clear hR5;have HRn:Hid (R5=jl l (i+1)):=by
     show _=_;obtain ⟨h1,h2⟩:=Hth.out;rw [ad8 l i hlt,<- HR.out];unfold bf9;rw [<- h1,<- h2,HR5.out]
    obtain ⟨S5,hag⟩:=hK5.ag;obtain ⟨hn1,hn2⟩:=hag.lenL;go_upto_region 12 with (go_at_call 16;refine (hK5.capsL hgl1).mono ?_;rintro e W6 ⟨va,rfl,hva,_,hf6⟩)
    have hK6:=hK5.next hf6;rcases hlook with rfl | rfl | rfl | rfl | rfl
    ·go_wp2;go_roundw;case rel=>exact ⟨i+1,by go_num,by omega,R5,hK6,hCU5,HRn⟩
     case measure=>simp [intOf];omega
    ·have hap:=hag.apartA;go_wp2_with (first
      |(go_at_call 17;refine hK6.doomed.mono ?_;rintro e W7 ⟨vd,rfl,hvd,hf7⟩)
      |(go_at_call 31;refine (bc_ _ _ _ _ _ hn1 hn2 (hva.fr hf7) hvd hap).mono ?_;rintro e W8 ⟨rfl,hf8⟩))
     go_roundw;case rel=>exact ⟨i+1,by go_num,by omega,R5,(hK6.next hf7).next hf8,hCU5,HRn⟩
     case measure=>simp [intOf];omega
    ·have hwi:=hag.withinA;go_wp2_with (go_at_call 33;refine (a11 _ _ _ hn1 hva hwi).mono ?_;rintro e W8 ⟨rfl,hf8⟩)
     go_roundw;case rel=>exact ⟨i+1,by go_num,by omega,R5,hK6.next hf8,hCU5,HRn⟩
     case measure=>simp [intOf];omega
    ·cases b with
     | true=>
      go_wp2;go_roundw;case rel=>exact ⟨i+1,by go_num,by omega,R5,hK6,hCU5,HRn⟩
      case measure=>simp [intOf];omega
     | false=>
      have hnm2:=hnm rfl;clear hnm;go_wp2_with (go_at_call 34;refine (a31 _ _ _ _ _ hn1 hn3 (hvb5.fr hf6) hva hnm2).mono ?_;rintro e W8 ⟨rfl,hf8⟩)
      go_roundw;case rel=>exact ⟨i+1,by go_num,by omega,R5,hK6.next hf8,hCU5,HRn⟩
      case measure=>simp [intOf];omega
    ·clear hnm;go_wp2_with (go_at_call 32;refine (bf1 hK6 _ _ _ _ hn1 hn3 (hvb5.fr hf6) hva hcln).mono ?_;rintro e W8 ⟨rfl,hf8⟩)
     go_roundw;case rel=>exact ⟨i+1,by go_num,by omega,R5,hK6.next hf8,hCU5,HRn⟩
     case measure=>simp [intOf];omega
  ·have hF:=hf1.step hK.base (fun _=>False.elim);have hor:l.length<=i\/i=300:=by omega
   have hRe:R=jl l 300:=by
    rcases hor with e | e
    ·rw [HR.out];exact a84 l i e hi
    ·rw [HR.out,e]
   have hPT:ag_ l w kb wr:=⟨W1,hf1,hgl1,by rw [<- hRe];exact hK⟩;clear hRe;clear hA hK hF;rcases hor with hor | hor
   ·go_wp2;go_ret;exact ⟨kb,rfl,hPT⟩
   ·subst hor;by_cases h3:300<l.length
    ·go_wp2;go_ret;exact ⟨kb,rfl,hPT⟩
    ·go_wp2;go_ret;first | exact ⟨kb,rfl,hPT⟩ | exact ⟨⟨kb,rfl⟩,hPT⟩
theorem a07 (aq:Int)(hlook:aq=0\/aq=1\/aq=3\/aq=4\/aq=2)(v:Value)(l:List j8)(w:World)(hgl:fm w)(hl:ol w v l)(hn:l.length<=9223372036854775807):
 Calls Tryd.prog 15 #[v,.int .i64 aq] w fun e w'=>∃kb,e=.returned (.pointer (some ⟨kb,0,none⟩))/\ao3 w kb w':=
 (am9 aq hlook v l w hgl hl hn).mono fun _ _ ⟨kb,h1,W1,h2,h3,h4⟩=>⟨kb,h1,W1,_,h2,h3,h4⟩
theorem ao3.fr {w w':World}{kb:Nat}(h:ao3 w kb w'):Fr w w' (fun _=>False):=by
 obtain ⟨W1,R,h1,_,h2⟩:=h;exact h1.step h2.base (fun _=>False.elim)
theorem yr (aq:Int)(hlook:aq=0\/aq=1\/aq=3\/aq=4\/aq=2)(v:Value)(l:List j8)(w:World)(hgl:fm w)(hl:ol w v l)(hn:l.length<=9223372036854775807):
 Calls Tryd.prog 15 #[v,.int .i64 aq] w fun e w'=>∃kb,e=.returned (.pointer (some ⟨kb,0,none⟩))/\Fr w w' (fun _=>False):=
 (a07 aq hlook v l w hgl hl hn).mono fun _ _ ⟨kb,h1,h2⟩=>⟨kb,h1,h2.fr⟩
theorem bw9 {R:RS}{S:KS}(h:Ag R S)(th:Int)(c:Cl)(hk:c.kind=6):(p_ S th c []).2.1≠8:=by
 have hX:p_ S th c []=(0,ls S th c []):=by unfold p_;rw [if_neg (by omega)]
 rw [hX];simp only;have hA:=(Ag.work F0 [] h).2;obtain ⟨hgw,hDw,hw⟩:=b7.worked ⟨R,h⟩;unfold ls;cases ht:S.K.thr th with
 | none=>simp
 | some t=>
  simp only;by_cases hst:t.state≠1
  ·rw [if_pos hst];simp
  ·rw [if_neg hst,if_neg (by omega),if_pos (by omega),hw];simp only [Bool.true_eq_false,if_false];rw [if_neg (by omega)];cases hfi:ay (worked S).K t.root c.at_ with
   | none=>simp
   | some s=>
    simp only;cases hh:(worked S).K.held s with
    | none=>simp
    | some k=>
     simp only [Option.isNone_some,Bool.false_eq_true,if_false];rw [if_neg (by omega)];have hidx:=(hA.core.inN s k hh).1;have hlen:=hA.core.len;obtain ⟨q1,_⟩:=xu s hidx F1 hA hDw (by rw [bf_];omega);have q1:(bw F1 (worked S) s []).1=0:=q1;rw [q1];decide
theorem bv7 (ot:Option mg):∃s r v b e f:Int,mz ot=.returned (.tuple #[.agg #[.int .i64 s,.int .i64 r,.int .i64 v,.int .i64 b,.int .i64 e],.int .i64 f])/\∀t,ot=some t->r=t.root/\f=0:=by
 cases ot with
 | none=>exact ⟨_,_,_,_,_,_,rfl,fun t h=>by cases h⟩
 | some t=>exact ⟨_,_,_,_,_,_,rfl,fun t' h=>by cases h;exact ⟨rfl,rfl⟩⟩
theorem a73 (v:Value)(l:List j8)(x:j8)(bv:Value)(w:World)(hgl:fm w)(hl:ol w v l)(hn:l.length<=9223372036854775807)(hx:x.Ok):
 Calls Tryd.prog 8 #[v,x.val bv] w fun e w'=>e=.returned (.bool true)/\Fr w w' (fun _=>False):=by
 have hf0:=(Fr.refl w (fun _=>False)).alloc (.cells #[.int .i64 x.thread,.int .i64 x.kind,.int .i64 x.a,.int .i64 x.b,.int .i64 x.c,.int .i64 x.d,bv] 42);have hb0:=heap_alloc_new w (.cells #[.int .i64 x.thread,.int .i64 x.kind,.int .i64 x.a,.int .i64 x.b,.int .i64 x.c,.int .i64 x.d,bv] 42);have hcall:=fun W=>au9 x bv W hx
 unfold j8.val at hcall ⊢;go_enter Tryd.func8,Tryd.ntmps8
 go_upto_region 1 with fail
 have hpl:=a07 0 (.inl rfl) v l _ (fm.fr hgl hf0) (hl.fr hf0) hn;clear hl;generalize w.alloc _=W0 at hf0 hb0 hpl ⊢;generalize w.heap.size=Ba at hb0 ⊢;go_upto_region 2 with (go_at_call 15;refine hpl.mono ?_;rintro e W1 ⟨kb,rfl,hPT⟩)
 have hb1:=hPT.fr.same hb0 id;have hfW:=hf0.step hPT.fr (fun _=>False.elim);obtain ⟨Wg,R,hfg,hglg,hK⟩:=hPT;have hws:w.heap.size<=Wg.heap.size:=Nat.le_trans hf0.size hfg.size;clear hfg;clear hpl hb0 hf0;go_upto_region 5 with (go_at_call 16;refine (hK.capsL hglg).mono ?_;rintro e W2 ⟨vb,rfl,hvb,hvk,hf2⟩)
 go_upto_region 6 with (go_at_call 17;refine ((hK.next hf2).doomed).mono ?_;rintro e W3 ⟨vd,rfl,_,hf3⟩)
 have hF3:=hf2.step hf3 (fun _=>False.elim);have hb3:=hF3.same hb1 id;obtain ⟨a0,a1,a2,a3,a4,a5,a6⟩:=dj hb3;go_upto_region 7 with (go_at_call 18;refine (hcall _).mono ?_;rintro e W4 ⟨c,av,tv,rfl,ho⟩;obtain ⟨A1,q1,rfl,_⟩:=id ho.at_;obtain ⟨A2,q2,rfl,_⟩:=id ho.ti;unfold Cl.cells)
 have hF4:=hF3.step ho.fr (fun _=>False.elim);have hb4:=hF4.same hb1 id;have hf5:=(Fr.refl W4 (fun _=>False)).alloc (.cells #[.int .i64 c.kind,.slice A1 c.at_.length q1,.slice A2 c.to.length q2,.int .i64 c.ty,.int .i64 c.bits,.int .i64 c.count,.int .i64 c.rights,.int .i64 c.badge,.int .i64 c.value,.int .i64 c.offset] 30);have hb8:=heap_alloc_new W4 (.cells #[.int .i64 c.kind,.slice A1 c.at_.length q1,.slice A2 c.to.length q2,.int .i64 c.ty,.int .i64 c.bits,.int .i64 c.count,.int .i64 c.rights,.int .i64 c.badge,.int .i64 c.value,.int .i64 c.offset] 30);have hB8:W4.heap.size<=W4.heap.size:=Nat.le_refl _;have hBa:Ba<W4.heap.size:=(Array.getElem?_eq_some_iff.1 hb4).1;generalize W4.alloc _=W5 at hf5 hb8 ⊢;have hF1s:=hF4.size;generalize hB:W4.heap.size=B8 at hb8 hBa ⊢;clear a0 a1 a2 a3 a4 a5 a6 hcall;have z0:=aa (o:=0) hb8 rfl;have f0:=ae (o:=0) hb8;go_upto_region 8 with fail
 have hb86:(W5.setCell ⟨B8,0,none⟩ (.int .i64 6)).heap[B8]?=some (.cells #[.int .i64 6,.slice A1 c.at_.length q1,.slice A2 c.to.length q2,.int .i64 c.ty,.int .i64 c.bits,.int .i64 c.count,.int .i64 c.rights,.int .i64 c.badge,.int .i64 c.value,.int .i64 c.offset] 30 (0,0)):=au _ B8 0 _ hb8;have hf6:Fr W4 (W5.setCell ⟨B8,0,none⟩ (.int .i64 6)) (fun _=>False):=hf5.setCell (.inr (by omega)) 0 _;generalize W5.setCell _ _=W6 at hb86 hf6 ⊢;have hF6:=hF4.step hf6 (fun _=>False.elim);clear z0 f0 hb8 hf5;have a0:=(dj (hF6.same hb1 id)).1;go_upto_region 9 with (go_at_call 19;refine (am4 (hK.next hF6) x.thread hx.thread).mono ?_;rintro e W7 ⟨th,rfl,hf7,_⟩)
 have hF7:=hF6.step hf7 (fun _=>False.elim);have hb87:=hf7.same hb86 id;have hthr:=(hK.next hF7).thread th;clear a0 hb86;obtain ⟨c6,hc6⟩:∃c6:Cl,c6={c with kind:=6}:=⟨_,rfl⟩;have hat:c6.at_=c.at_:=by rw [hc6]
 have hti:c6.to=c.to:=by rw [hc6]
 have hkd:c6.kind=6:=by rw [hc6]
 have hdo:∀W,Fr W7 W (fun _=>False)->Calls Tryd.prog 12 #[.pointer (some ⟨kb,0,none⟩),.int .i64 th,.agg #[.int .i64 6,.slice A1 c.at_.length q1,.slice A2 c.to.length q2,.int .i64 c.ty,.int .i64 c.bits,.int .i64 c.count,.int .i64 c.rights,.int .i64 c.badge,.int .i64 c.value,.int .i64 c.offset],.slice none 0 0] W
  fun e w'=>e=.returned (.tuple #[.int .i64 (ew R th c6 []).1,.int .i64 (ew R th c6 []).2.1])/\KR Wg w' kb (ew R th c6 []).2.2/\Fr W w' (fun k=>Wg.heap.size<=k/\k<W1.heap.size):=by
  intro W hW;have hFW:=hF7.step hW (fun _=>False.elim);have hf47:=(hf6.step hf7 (fun _=>False.elim)).step hW (fun _=>False.elim);have:=hK.doB hFW c6 th (av:=.slice A1 c.at_.length q1) (tv:=.slice A2 c.to.length q2) (bv:=.slice none 0 0) (bs:=[]) (by rw [hat];exact ho.at_.fr hf47 (fun _ _=>id)) (by rw [hti];exact ho.ti.fr hf47 (fun _ _=>id)) (by rw [hat];have:=ho.al;omega) (by rw [hti];have:=ho.tl;omega) ho.ac ho.tc (fj.none _ _ _) (fun _ k hk=>.inr (Nat.le_trans hF3.size (ho.ba k hk))) (fun _ k hk=>.inr (Nat.le_trans hF3.size (ho.bt k hk))) (fun h0=>absurd h0 (by decide))
  rw [hc6] at this ⊢;exact this
 obtain ⟨S0,hag⟩:=hK.ag;obtain ⟨_,g2,g3,_⟩:=od hag th c6 [];have h8:=bw9 hag th c6 hkd;have hrev:=fun he=>bx8 hag th c6 hkd he
 rw [<- g2] at h8 hrev;have hthS:S0.K.thr th=(R.R.T.find? (ao th)).map gh.thd:=hag.core.rel.thr th;clear g2;generalize (R.R.T.find? (ao th)).map gh.thd=ot at hthr hthS;obtain ⟨k1,k2,k3,k4,k5,fe,hta,htk⟩:=bv7 ot;rw [hta] at hthr;obtain ⟨e0,He0⟩:∃e0,Hid ((ew R th c6 []).2.1=e0):=⟨_,rfl⟩;rw [He0.out] at h8 hrev;simp only [He0.out] at hdo;generalize hR1:(ew R th c6 []).2.2=R1 at hdo g3;generalize (ew R th c6 []).1=x9 at hdo;clear hta hR1 He0;go_upto_region 10 with (go_at_call 14;refine hthr.mono ?_;rintro e W8 ⟨rfl,hf8⟩)
 have hf9:=hf8.alloc (.cells #[.int .i64 k1,.int .i64 k2,.int .i64 k3,.int .i64 k4,.int .i64 k5] 33);have hb10:=heap_alloc_new W8 (.cells #[.int .i64 k1,.int .i64 k2,.int .i64 k3,.int .i64 k4,.int .i64 k5] 33);have hB10:W7.heap.size<=W8.heap.size:=hf8.size;generalize W8.alloc _=W9 at hf9 hb10 ⊢;generalize W8.heap.size=B10 at hb10 hB10 ⊢;clear hthr hf8;have hb89:=hf9.same hb87 id;obtain ⟨z0,z1,z2,z3,z4,z5,z6,z7,z8,z9⟩:=zi hb89;go_upto_region 11 with (go_at_call 12;refine (hdo _ hf9).mono ?_;rintro e W10 ⟨rfl,hK1,hf10⟩)
 have hF9:=hF7.step hf9 (fun _=>False.elim);have hF10:Fr w W10 (fun _=>False):=(hfW.step hF9 (fun _=>False.elim)).step hf10 (fun k hk=>.inr (Nat.le_trans hws hk.1))
 clear z0 z1 z2 z3 z4 z5 z6 z7 z8 z9 hdo;by_cases he:e0=0
 ·subst he;obtain ⟨t,s,hr⟩:=hrev rfl;obtain ⟨hk2,hfe⟩:=htk t (hthS.symm.trans hr.thr);subst hk2 hfe;have hRA:=hr.lists hag g3;have hway:=hr.way hag (by rw [hat];exact ho.al);rw [hat] at hway;obtain ⟨hn1,_⟩:=hag.lenL;obtain ⟨hn2,_⟩:=g3.lenL;have hf29:Fr W2 W9 (fun _=>False):=(((hf3.step ho.fr (fun _=>False.elim)).step hf6 (fun _=>False.elim)).step hf7 (fun _=>False.elim)).step hf9 (fun _=>False.elim);have hvb10:=(hvb.fr hf29).frk hf10 (fun k hk e=>by have:=hvk k hk;omega);have hi9:=ho.at_.fr ((hf6.step hf7 (fun _=>False.elim)).step hf9 (fun _=>False.elim)) (fun _ _=>id);have hi10:=hi9.frk hf10 (fun _ k hk e=>by have:=ho.ba k hk;have:=hF3.size;omega);have hW1s:=hF7.size;have hb810:=hf10.same hb89 (fun e=>by omega);have hb1010:=hf10.same hb10 (fun e=>by omega);clear hrev htk hthS hr hvb hi9 hb89 hb10 hb87 hag g3 h8;go_upto_region 14 with (go_at_call 16;refine (hK1.capsL hglg).mono ?_;rintro e W11 ⟨va,rfl,hva,_,hf11⟩)
  have hD0:R1.D.length=0:=by rw [hRA.d];rfl
  have hK2:=hK1.next hf11;go_upto_region 16 with (go_at_call 17;refine hK2.doomed.mono ?_;rintro e W12 ⟨vd2,rfl,hvd2,hf12⟩;obtain ⟨Ad,capd,rfl⟩:=xn hvd2;rw [hD0])
  have hF12:=hf11.step hf12 (fun _=>False.elim);have hvb12:=hvb10.fr hF12;have hva12:=hva.fr hf12;have hi12:=hi10.fr hF12 (fun _ _=>id);have hb812:=hF12.same hb810 id;have hb1012:=hF12.same hb1010 id;have hFw:=hF10.step hF12 (fun _=>False.elim);clear hvb10 hva hi10 hb810 hb1010 hvd2 hK2 hK1 hf11 hf12 hF12 hF10 hf10 hK;have y1:=aa (o:=1) hb1012 rfl;have z1:=aa (o:=1) hb812 rfl;-- the way
  have fBq:∀m n nd ix,Calls Tryd.prog 20 #[vb,.int .i64 nd,.int .i64 ix] ((W12.drewN m).drewN n) fun e w'=>e=.returned (.int .i64 (fu (capsL R) nd ix))/\w'=(W12.drewN m).drewN n:=fun m n nd ix=>oj (capsL R) vb nd ix _ hn1 ((hvb12.drewN m).drewN n)
  have fB0:∀nd ix,Calls Tryd.prog 20 #[vb,.int .i64 nd,.int .i64 ix] W12 fun e w'=>e=.returned (.int .i64 (fu (capsL R) nd ix))/\w'=W12:=fun nd ix=>oj (capsL R) vb nd ix _ hn1 hvb12
  have hexc:=fun m=>at2 (capsL R) (capsL R1) vb va vd s.node s.index (W12.drewN m) hn2 hn1 (hvb12.drewN m) (hva12.drewN m) hRA.exc
  obtain ⟨PB,capB,rfl,hAb⟩:=id hvb12;obtain ⟨PA,capA,rfl,hAa⟩:=id hva12;obtain ⟨A',cap',e',hAi⟩:=id hi12;have hpos:0<c.at_.length:=by
   rcases hway with ⟨a,hc1,hs⟩ | ⟨a,b,p0,hp0,hc1,hfp0,hbase,hidx⟩
   ·rw [hc1];simp
   ·rw [hc1];simp
  obtain ⟨gi,oi,rfl,hci⟩:=hAi hpos;simp only [Value.slice.injEq] at e';obtain ⟨rfl,_,rfl⟩:=e';clear hAi;go_upto_block 0 with fail
  go_cut [15] (fun nv wx=>nv=.int .i64 s.node/\wx=W12)
  case first=>
   clear hRA hexc hAa fBq hFw;rcases hway with ⟨a,hc1,hs⟩ | ⟨a,b,p0,hp0,hc1,hfp0,hbase,hidx⟩
   ·have hlen:c.at_.length=1:=by rw [hc1];rfl
    have en:t.root=s.node:=by rw [hs]
    rw [hlen] at z1;have HE:Hid (t.root=s.node):=en;clear hci hc1 hs fB0 en hlen;go_wp2;go_loopw [15,16] (fun nv iv w'=>nv=.int .i64 t.root/\iv=.int .i64 0/\w'=W12) (fun _ _ _=>0)
    case atStart=>exact ⟨rfl,rfl,rfl⟩
    case round=>
     obtain ⟨rfl,rfl,hw⟩:=hrel;obtain rfl:=hw.symm;go_wp2;go_meet;exact ⟨by rw [HE.out],rfl⟩
   ·have hlen:c.at_.length=2:=by rw [hc1];rfl
    have ci:=hci 0 (by omega);have ea:c.at_[0]'(by omega)=a:=by simp [hc1]
    rw [ea] at ci;rw [hlen] at z1;rw [Nat.add_zero] at ci;have hfind:=fB0 t.root a;rw [hfp0] at hfind;obtain ⟨gb3,hPB,hcb3⟩:=hAb (by omega);have hpb:=(mr hcb3 p0 hp0).c3;rw [hbase] at hpb;subst hPB;clear hci hc1 ea fB0 hcb3 hAb hvb12 hlen hfp0 hbase hidx;go_wp2;go_loopw [15,16] (fun nv iv w'=>∃k:Nat,iv=.int .i64 k/\((k=0/\nv=.int .i64 t.root)\/(k=1/\nv=.int .i64 s.node))/\w'=W12) (fun _ iv _=>1-(intOf iv).toNat)
    case atStart=>exact ⟨0,rfl,.inl ⟨rfl,rfl⟩,rfl⟩
    case round=>
     obtain ⟨k,rfl,hor,hw⟩:=hrel;obtain rfl:=hw.symm;rcases hor with ⟨rfl,rfl⟩ | ⟨rfl,rfl⟩
     ·go_wp2_with (go_at_call 20;refine hfind.mono ?_;rintro e w1 ⟨rfl,he1⟩;obtain rfl:=he1.symm)
      go_roundw;case measure=>decide
      all_goals (first | exact ⟨1,rfl,.inr ⟨rfl,rfl⟩,trivial⟩ | exact ⟨1,rfl,.inr ⟨rfl,rfl⟩,rfl⟩ | exact ⟨1,by go_num,.inr ⟨rfl,rfl⟩,rfl⟩ | (simp [intOf];done) | (simp [intOf];omega))
     ·go_wp2;go_meet;exact ⟨rfl,rfl⟩
  case rest=>
   obtain ⟨rfl,hw⟩:=hcut;obtain rfl:=hw.symm;clear fB0 y1;go_upto_region 24 with fail
   go_cut [18] (fun iv wx=>iv=.int .i64 s.index/\wx=W12)
   case first=>
    clear hRA hexc hAa hAb fBq hFw;rcases hway with ⟨a,hc1,hs⟩ | ⟨a,b,p0,hp0,hc1,hfp0,hbase,hidx⟩
    ·have hlen:c.at_.length=1:=by rw [hc1];rfl
     have ci:=hci 0 (by omega);have ea:c.at_[0]'(by omega)=s.index:=by rw [hs];simp [hc1]
     rw [ea,Nat.add_zero] at ci;rw [hlen] at z1;clear hci hc1 hs ea hlen;go_wp2;go_meet;exact ⟨rfl,rfl⟩
    ·have hlen:c.at_.length=2:=by rw [hc1];rfl
     have ci:=hci 1 (by omega);have ea:c.at_[1]'(by omega)=s.index:=by rw [hidx];simp [hc1]
     rw [ea] at ci;rw [hlen] at z1;clear hci hc1 ea hlen hfp0 hbase hidx;go_wp2;go_meet;exact ⟨rfl,rfl⟩
   case rest=>
    obtain ⟨rfl,hw⟩:=hcut;obtain rfl:=hw.symm;clear hway hci z1 hi12;go_wp2;go_loopw [19] (fun iv w'=>∃i m:Nat,i<=(capsL R1).length/\iv=.int .i64 i/\w'=W12.drewN m) (fun iv _=>(capsL R1).length-(intOf iv).toNat)
    case atStart=>exact ⟨0,0,Nat.zero_le _,rfl,rfl⟩
    case round=>
     obtain ⟨i,mm,hi,rfl,rfl⟩:=hrel;by_cases hlt:i<(capsL R1).length
     ·obtain ⟨ga2,rfl,hca⟩:=hAa (by omega);have he:=mr hca i hlt;have hkid:=hRA.kid i hlt;obtain ⟨p,hp,hfp,e1,e2,e3,e4,e5,e6⟩:=hRA.same i hlt;obtain ⟨gb2,rfl,hcb⟩:=hAb (by omega);have hb:=mr hcb p hp;have hq:=fun n=>fBq mm n (capsL R1)[i].node (capsL R1)[i].index
      rw [hfp] at hq;obtain ⟨r0,r1,r2,r3,r4,r5,r6,r7,r8,r9⟩:=he;obtain ⟨_,_,v2,v3,v4,v5,v6,v7,_,_⟩:=hb;rw [e1] at v2;rw [e2] at v3;rw [e3] at v4;rw [e4] at v5;rw [e5] at v6;rw [e6] at v7;have s2:=r2;have s3:=r3;have s4:=r4;have s5:=r5;have s6:=r6;have s7:=r7;have t2:=v2;have t3:=v3;have t4:=v4;have t5:=v5;have t6:=v6;have t7:=v7;replace r0:=ah r0 mm;replace r1:=ah r1 mm;replace r2:=ah r2 mm;replace r3:=ah r3 mm;replace r4:=ah r4 mm;replace r5:=ah r5 mm;replace r6:=ah r6 mm;replace r7:=ah r7 mm;replace r8:=ah r8 mm;replace r9:=ah r9 mm;replace v2:=ah v2 mm;replace v3:=ah v3 mm;replace v4:=ah v4 mm;replace v5:=ah v5 mm;replace v6:=ah v6 mm;replace v7:=ah v7 mm;have hfin:∀x,∃m',(W12.drewN mm).drewN x=W12.drewN m':=fun x=>⟨mm+x,o9 W12 mm x⟩
      clear e1 e2 e3 e4 e5 e6 hfp fBq hca hcb hAa hAb hRA hva12 hvb12 hb812 hb1012 hexc hFw;generalize W12.drewN mm=W13 at r0 r1 r2 r3 r4 r5 r6 r7 r8 r9 v2 v3 v4 v5 v6 v7 hfin hq ⊢;generalize (capsL R1)[i].node=n0 at *
      generalize (capsL R1)[i].index=n1 at *
      generalize (capsL R1)[i].ty=n2 at *
      generalize (capsL R1)[i].base=n3 at *
      generalize (capsL R1)[i].bits=n4 at *
      generalize (capsL R1)[i].rights=n5 at *
      generalize (capsL R1)[i].badge=n6 at *
      generalize (capsL R1)[i].mark=n7 at *
      generalize (capsL R1)[i].parent=n8 at *
      generalize (capsL R1)[i].place=n9 at *
      have hor:(n8=s.node/\¬n9=s.index)\/¬n8=s.node:=by
       by_cases g1:n8=s.node
       ·exact .inl ⟨g1,fun e=>hkid ⟨g1,e⟩⟩
       ·exact .inr g1
      clear hkid;go_upto_region 28 with fail
      go_cut [118] (fun bv wx=>bv=.bool false/\wx=W13)
      case first=>
       rcases hor with ⟨rfl,g2⟩ | g1
       ·go_wp2;go_meet;exact ⟨by simp [g2],rfl⟩
       ·go_wp2;go_meet;exact ⟨rfl,rfl⟩
      case rest=>
       obtain ⟨rfl,hw⟩:=hcut;obtain rfl:=hw.symm;clear hor;go_wp2_with fail
       go_cut [20] (fun iv wx=>iv=.int .i64 p/\∃m,wx=W12.drewN m)
       case first=>
        go_quiet ((go_at_call 20;exact w7 (hq _)))
        go_wp2_with fail
        go_meet;exact ⟨rfl,hfin _⟩
       case rest=>
        obtain ⟨rfl,m',hw⟩:=hcut;obtain rfl:=hw.symm;replace s2:=ah s2 m';replace s3:=ah s3 m';replace s4:=ah s4 m';replace s5:=ah s5 m';replace s6:=ah s6 m';replace s7:=ah s7 m';replace t2:=ah t2 m';replace t3:=ah t3 m';replace t4:=ah t4 m';replace t5:=ah t5 m';replace t6:=ah t6 m';replace t7:=ah t7 m';clear r0 r1 r2 r3 r4 r5 r6 r7 r8 r9 v2 v3 v4 v5 v6 v7 hfin hq;have hfin:∀x,∃m2,(W12.drewN m').drewN x=W12.drewN m2:=fun x=>⟨m'+x,o9 W12 m' x⟩
        clear hw;generalize W12.drewN m'=W14 at s2 s3 s4 s5 s6 s7 t2 t3 t4 t5 t6 t7 hfin ⊢;go_wp2_with fail
        go_cut [145] (fun bv wx=>bv=.bool false/\∃m,wx=W12.drewN m)
        case first=>
         go_quiet (fail)
         go_wp2_with fail
         go_meet;exact ⟨rfl,hfin _⟩
        case rest=>
         obtain ⟨rfl,m2,hw⟩:=hcut;obtain rfl:=hw.symm;go_wp2;go_roundw;case rel=>exact ⟨i+1,m2,hlt,by simp,rfl⟩
         case measure=>simp only [intOf];omega
     ·have hie:i=(capsL R1).length:=by omega
      subst hie;go_wp2_with (go_at_call 21;refine (hexc mm).mono ?_;rintro e W14 ⟨rfl,m14,rfl⟩)
      go_ret;exact ⟨rfl,by first | exact hFw.drewN _ | exact (hFw.drewN _).drewN _⟩
 ·go_wp2;go_ret;exact ⟨by first | rfl | simp [h8],hF10⟩
end Go.Proofs.YtdpjgflemddekaaDoor
