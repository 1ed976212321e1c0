/- The keeping statements: played. -/
import Derived.Test.YtdpjgflemddekaaDoorMKeepG
import Derived.Test.YtdpjgflemddekaaDoorMKeepP
import Derived.Test.YtdpjgflemddekaaDoorMKeepF
import Derived.Test.YtdpjgflemddekaaDoorMKeepV
set_option maxRecDepth 100000
set_option maxHeartbeats 4000000
namespace Go.Proofs.YtdpjgflemddekaaDoor
open Go.RowKit Go.Shelf
structure ActAt (w:World)(g o:Nat)(x:AAct):Prop where
 ok:x.Ok
 c0:w.cell? ⟨g,o,none⟩=some (.int .i64 x.thread)
 c1:w.cell? ⟨g,o+1,none⟩=some (.int .i64 x.kind)
 c2:w.cell? ⟨g,o+2,none⟩=some (.int .i64 x.a)
 c3:w.cell? ⟨g,o+3,none⟩=some (.int .i64 x.b)
 c4:w.cell? ⟨g,o+4,none⟩=some (.int .i64 x.c)
 c5:w.cell? ⟨g,o+5,none⟩=some (.int .i64 x.d)
 c6:∃bv,w.cell? ⟨g,o+6,none⟩=some bv/\BitsAt w bv x.bits
def ActsAt (w:World)(v:Value)(l:List AAct):Prop:=
 ∃P cap,v=.slice P l.length cap/\(0<l.length->∃g o,P=some ⟨g,o,none⟩/\∀i (hi:i<l.length),ActAt w g (o+i*7) l[i])
theorem ActAt.fr {w w':World}{g o:Nat}{x:AAct}(h:ActAt w g o x)(hf:Fr w w' (fun _=>False)):ActAt w' g o x:=by
 obtain ⟨bv,h1,h2⟩:=h.c6;exact ⟨h.ok,hf.cell h.c0 id,hf.cell h.c1 id,hf.cell h.c2 id,hf.cell h.c3 id,hf.cell h.c4 id,hf.cell h.c5 id,bv,hf.cell h1 id,h2.fr hf⟩
theorem ActsAt.fr {w w':World}{v:Value}{l:List AAct}(h:ActsAt w v l)(hf:Fr w w' (fun _=>False)):ActsAt w' v l:=by
 obtain ⟨P,cap,e,hA⟩:=h;refine ⟨P,cap,e,fun h0=>?_⟩
 obtain ⟨g,o,e2,hc⟩:=hA h0;exact ⟨g,o,e2,fun i hi=>(hc i hi).fr hf⟩
theorem Ag.lenL {R:RS}{S:KS}(h:Ag R S):(capsL R).length<=1000000/\R.D.length<=1000000:=by
 rw [capsL_len];have:=h.core.len;have:=h.core.lenD;omega
theorem KR.ag {w0 W:World}{kb:Nat}{R:RS}(h:KR w0 W kb R):∃S,Ag R S:=by
 obtain ⟨S,V,h1,_⟩:=h;exact ⟨S,h1⟩
theorem lies_slice {α:Type}{w:World}{f:α->List Value}{k:Nat}{v:Value}{L:List α}(h:Lies w f k v L):∃A cap,v=.slice A L.length cap:=by
 obtain ⟨A,cap,e,_⟩:=h;exact ⟨A,cap,e⟩
def CU (R:RS):Prop:=∃S,Ag R S/\ClnK S
theorem cu_boot:CU bootRS:=by
 refine ⟨⟨bootK,[]⟩,boot_ag,?_⟩;intro s b n m e i h1 h2;rfl
theorem thereA_of {A:List AEnt}{ty b:Int}:∀(k:Nat),k<=A.length->∀p (hp:p<A.length),p<k->sameA ty b A[p]=true->thereA A ty b k=true
 | 0,_,p,hp,h,_=>by omega
 | k+1,hk,p,hp,h,hs=>by
  have e:thereA A ty b (k+1)=(thereA A ty b k || sameA ty b A[k]):=by simp [thereA,List.getElem?_eq_getElem (show k<A.length from hk)]
  rw [e];by_cases hpk:p=k
  ·subst hpk;rw [hs];simp
  ·rw [thereA_of k (by omega) p hp (by omega) hs];rfl
theorem cleanA {R R':RS}{S S':KS}(h:Ag R S)(h':Ag R' S')(hc:ClnK S')(hf:FlnK S S'):CleanA R'.ws (capsL R) (capsL R'):=by
 refine ⟨?_,?_,?_⟩
 ·intro i hi;obtain ⟨c,x,hr⟩:=h'.row i hi;have:=h'.core.cap _ c hr.held;rw [hr.base,hr.bits,hr.mark];exact this
 ·intro i hi ht n h1 h2;obtain ⟨c,x,hr⟩:=h'.row i hi;have hcap:=h'.core.cap _ c hr.held;rw [hr.ty] at ht;rw [hr.base,hr.mark] at h1;rw [hr.base,hr.bits] at h2;rw [h'.ws _ (by omega)];cases c with
  | untyped b' n' m'=>exact hc _ _ _ _ hr.held n h1 h2
  | _=>cases ht
 ·intro i hi ht ho n h1 h2;obtain ⟨c,x,hr⟩:=h'.row i hi;have hcap:=h'.core.cap _ c hr.held;rw [hr.ty] at ht;rw [hr.base] at h1 ho;rw [hr.base,hr.bits] at h2;rw [h'.ws _ (by omega)];cases c with
  | frame b' n' r'=>
   rcases hf _ _ _ _ hr.held with ⟨s,n0,r0,e0⟩ | e0
   ·exfalso
    obtain ⟨p,hp,q1,q2,_⟩:=h.rowOf e0;have:thereA (capsL R) 5 b' (capsL R).length=true:=thereA_of _ (Nat.le_refl _) p hp hp (by simp only [sameA,Bool.and_eq_true,beq_iff_eq];exact ⟨q1,q2⟩);rw [show (KCap.frame b' n' r').base=b' from rfl,this] at ho;cases ho
   ·exact e0 n h1 h2
  | _=>cases ht
theorem Lies.frk {α:Type}{w w':World}{f:α->List Value}{k:Nat}{v:Value}{L:List α}{S:Nat->Prop}(h:Lies w f k v L)(hf:Fr w w' S)(hs:∀j,v.ownBlock=some j->¬S j):Lies w' f k v L:=by
 obtain ⟨A,cap,e,hA⟩:=h;refine ⟨A,cap,e,fun h0=>?_⟩
 obtain ⟨g,e2,hc⟩:=hA h0;exact ⟨g,e2,fun i hi j x hx=>hf.cell (hc i hi j x hx) (hs g (by rw [e,e2];rfl))⟩
def PlayedTo (w:World)(kb:Nat)(w':World):Prop:=∃W1 R,Fr w W1 (fun _=>False)/\Glob W1/\KR W1 w' kb R
def stepA (R:RS)(x:AAct):RS:=(doRX R (thrI R x.thread) (clOf x) x.bits).2.2
def playTo (l:List AAct)(i:Nat):RS:=(l.take i).foldl stepA bootRS
theorem playTo_next (l:List AAct)(i:Nat)(h:i<l.length):playTo l (i+1)=stepA (playTo l i) l[i]:=by
 unfold playTo;rw [List.take_succ_eq_append_getElem h,List.foldl_append];rfl
theorem playTo_end (l:List AAct)(i:Nat)(h:l.length<=i)(hi:i<=300):playTo l i=playTo l 300:=by
 unfold playTo;rw [List.take_of_length_le h,List.take_of_length_le (by omega)]
def PlayedP (l:List AAct)(w:World)(kb:Nat)(w':World):Prop:=∃W1,Fr w W1 (fun _=>False)/\Glob W1/\KR W1 w' kb (playTo l 300)
theorem played_p (look:Int)(hlook:look=0\/look=1\/look=3\/look=4\/look=2)(v:Value)(l:List AAct)(w:World)(hgl:Glob w)(hl:ActsAt w v l)(hn:l.length<=100000000):
 Calls Tryd.prog 15 #[v,.int .i64 look] w fun e w'=>∃kb,e=.returned (.pointer (some ⟨kb,0,none⟩))/\PlayedP l w kb w':=by
 go_enter Tryd.func15,Tryd.ntmps15
 go_upto_region 2 with (go_at_call 10;refine (sure_any _ hgl).mono ?_;rintro e W1 ⟨rfl,hf1⟩)
 have hgl1:Glob W1:=Glob.fr hgl hf1;go_upto_region 3 with (go_at_call 11;refine (kr_boot _ hgl1).mono ?_;rintro e W2 ⟨kb,rfl,hK⟩)
 have hl1:=hl.fr hf1;clear hl;obtain ⟨P,cap,rfl,hA⟩:=hl1;go_wp2;go_loopw [7] (fun iv w'=>∃i:Nat,iv=.int .i64 i/\i<=300/\∃R,KR W1 w' kb R/\CU R/\Hid (R=playTo l i)) (fun iv _=>300-(intOf iv).toNat)
 case atStart=>exact ⟨0,rfl,by omega,_,hK,cu_boot,(by show _=_;rfl)⟩
 case round=>
  clear hK;obtain ⟨i,rfl,hi,R,hK,hCU,HR⟩:=hrel;by_cases hlt:i<l.length/\i<300
  ·obtain ⟨hlt,hi3⟩:=hlt;obtain ⟨g,o,rfl,hc⟩:=hA (by omega);have hact:=hc i hlt;clear hA hc;go_upto_region 9 with (go_at_call 16;refine (hK.capsL hgl1).mono ?_;rintro e W3 ⟨vb,rfl,hvb,hvk,hf3⟩)
   have hF3:=hK.base.step hf3 (fun _=>False.elim);have hact3:=hact.fr hF3;have hok:=hact.ok;obtain ⟨bv,hb6,hB⟩:=hact.c6;have hb63:=hF3.cell hb6 id;obtain ⟨_,s0,s1,s2,s3,s4,s5,_⟩:=hact3;have hcall:=fun W=>call_e l[i] bv W hok
   have hact2:=fun W (hW:Fr wr W (fun _=>False))=>act_e hK hW l[i] bv hok hB
   unfold AAct.val at hcall hact2;have hdo:=fun W (hW:Fr wr W (fun _=>False))=>(hK.next hW).doomed
   clear hact hb6 hB;generalize l[i].thread=x0 at *
   generalize l[i].a=x2 at *
   generalize l[i].b=x3 at *
   generalize l[i].c=x4 at *
   generalize l[i].d=x5 at *
   generalize hx1:l[i].kind=x1 at *
   go_cut [9] (fun v9 wx=>∃b,v9=.bool b/\(b=false->R.D=[]\/1+pickI x1 11≠1)/\Fr W3 wx (fun _=>False))
   case first=>
    by_cases hD:R.D.length=0
    ·go_wp2_with (go_at_call 17;refine (hdo _ hf3).mono ?_;rintro e W4 ⟨vd,rfl,hvd,hf4⟩;obtain ⟨Ad,capd,rfl⟩:=lies_slice hvd;rw [hD])
     go_meet;case rel=>exact ⟨_,rfl,fun _=>.inl (List.eq_nil_of_length_eq_zero hD),hf4⟩
    ·have hD2:0<R.D.length:=by omega
     have hfld:∀(k:Int) (av tv:Value) (x3 x4 x5 x6 x7 x8 x9:Int) (W:World),(Instr.field 30 (.agg #[.int .i64 k,av,tv,.int .i64 x3,.int .i64 x4,.int .i64 x5,.int .i64 x6,.int .i64 x7,.int .i64 x8,.int .i64 x9]) 0).run Tryd.prog W=.ok (.int .i64 k) W:=fun _ _ _ _ _ _ _ _ _ _ _=>by kernel_rfl
     go_wp2_with (first
      |(go_at_call 17;refine (hdo _ hf3).mono ?_;rintro e W4 ⟨vd,rfl,hvd,hf4⟩;obtain ⟨Ad,capd,rfl⟩:=lies_slice hvd;have r0:=hf4.cell s0 id;have r1:=hf4.cell s1 id;have r2:=hf4.cell s2 id;have r3:=hf4.cell s3 id;have r4:=hf4.cell s4 id;have r5:=hf4.cell s5 id;have r6:=hf4.cell hb63 id)
      |(go_at_call 18;refine (hcall _).mono ?_;rintro e W5 ⟨c,av,tv,rfl,ho⟩;unfold Cl.cells;have hF5:=hf4.step ho.fr (fun _=>False.elim)))
     go_meet;case rel=>exact ⟨_,rfl,fun hb=>.inr (by rw [<- hx1,<- ho.kind];simpa using hb),hF5⟩
   case rest=>
    obtain ⟨b,rfl,hbn,hf4⟩:=hcut;have hF4:=hf3.step hf4 (fun _=>False.elim);have r0:=hf4.cell s0 id;have r1:=hf4.cell s1 id;have r2:=hf4.cell s2 id;have r3:=hf4.cell s3 id;have r4:=hf4.cell s4 id;have r5:=hf4.cell s5 id;have r6:=hf4.cell hb63 id;clear s0 s1 s2 s3 s4 s5 hb63 hcall hdo;have hvb4:=hvb.fr hf4;clear hvb;go_upto_region 11 with (go_at_call 30;refine (hact2 _ hF4).mono ?_;rintro e W5 ⟨y,rfl,th,c,hck,hK5,hf5,Hth⟩)
    clear r0 r1 r2 r3 r4 r5 r6 hact2;obtain ⟨S0,hag0,hcl0⟩:=hCU;obtain ⟨hcl5,hfl5⟩:=do_cl hag0 hcl0 th c l[i].bits;have hCU5:CU (doRX R th c l[i].bits).2.2:=⟨_,(do_agreeX hag0 th c l[i].bits).2.2.1,hcl5⟩;have hcln:CleanA (doRX R th c l[i].bits).2.2.ws (capsL R) (capsL (doRX R th c l[i].bits).2.2):=cleanA hag0 (do_agreeX hag0 th c l[i].bits).2.2.1 hcl5 hfl5;clear hcl0 hcl5 hfl5;obtain ⟨hn3,_⟩:=hag0.lenL;have hnm:b=false->NoMoreA (capsL R) (capsL (doRX R th c l[i].bits).2.2):=fun hb=>by
     refine Proofs.YtdpjgflemddekaaDoor.noMoreA hag0 (do_agreeX hag0 th c l[i].bits).2.2.1 (do_from hag0 th c l[i].bits ?_);rcases hbn hb with e | e
     ·exact .inl (hag0.d.trans e)
     ·exact .inr (by rw [hck,hx1];exact e)
    clear hbn hag0 hK;have hvb5:=hvb4.frk hf5 (fun k hk e=>by have:=hvk k hk;omega);clear hvb4;obtain ⟨R5,hR5⟩:∃R5,(doRX R th c l[i].bits).2.2=R5:=⟨_,rfl⟩;rw [hR5] at hK5 hCU5 hcln;simp only [hR5] at hnm;have HR5:Hid ((doRX R th c l[i].bits).2.2=R5):=hR5;clear hR5;have HRn:Hid (R5=playTo l (i+1)):=by
     show _=_;obtain ⟨h1,h2⟩:=Hth.out;rw [playTo_next l i hlt,<- HR.out];unfold stepA;rw [<- h1,<- h2,HR5.out]
    obtain ⟨S5,hag⟩:=hK5.ag;obtain ⟨hn1,hn2⟩:=hag.lenL;go_upto_region 12 with (go_at_call 16;refine (hK5.capsL hgl1).mono ?_;rintro e W6 ⟨va,rfl,hva,_,hf6⟩)
    have hK6:=hK5.next hf6;rcases hlook with rfl | rfl | rfl | rfl | rfl
    ·go_wp2;go_roundw;case rel=>exact ⟨i+1,by go_num,by omega,R5,hK6,hCU5,HRn⟩
     case measure=>simp [intOf];omega
    ·have hap:=hag.apartA;go_wp2_with (first
      |(go_at_call 17;refine hK6.doomed.mono ?_;rintro e W7 ⟨vd,rfl,hvd,hf7⟩)
      |(go_at_call 31;refine (eapart_any _ _ _ _ _ hn1 hn2 (hva.fr hf7) hvd hap).mono ?_;rintro e W8 ⟨rfl,hf8⟩))
     go_roundw;case rel=>exact ⟨i+1,by go_num,by omega,R5,(hK6.next hf7).next hf8,hCU5,HRn⟩
     case measure=>simp [intOf];omega
    ·have hwi:=hag.withinA;go_wp2_with (go_at_call 33;refine (ewithin_any _ _ _ hn1 hva hwi).mono ?_;rintro e W8 ⟨rfl,hf8⟩)
     go_roundw;case rel=>exact ⟨i+1,by go_num,by omega,R5,hK6.next hf8,hCU5,HRn⟩
     case measure=>simp [intOf];omega
    ·cases b with
     | true=>
      go_wp2;go_roundw;case rel=>exact ⟨i+1,by go_num,by omega,R5,hK6,hCU5,HRn⟩
      case measure=>simp [intOf];omega
     | false=>
      have hnm2:=hnm rfl;clear hnm;go_wp2_with (go_at_call 34;refine (enoMore_any _ _ _ _ _ hn1 hn3 (hvb5.fr hf6) hva hnm2).mono ?_;rintro e W8 ⟨rfl,hf8⟩)
      go_roundw;case rel=>exact ⟨i+1,by go_num,by omega,R5,hK6.next hf8,hCU5,HRn⟩
      case measure=>simp [intOf];omega
    ·clear hnm;go_wp2_with (go_at_call 32;refine (eclean_any hK6 _ _ _ _ hn1 hn3 (hvb5.fr hf6) hva hcln).mono ?_;rintro e W8 ⟨rfl,hf8⟩)
     go_roundw;case rel=>exact ⟨i+1,by go_num,by omega,R5,hK6.next hf8,hCU5,HRn⟩
     case measure=>simp [intOf];omega
  ·have hF:=hf1.step hK.base (fun _=>False.elim);have hor:l.length<=i\/i=300:=by omega
   have hRe:R=playTo l 300:=by
    rcases hor with e | e
    ·rw [HR.out];exact playTo_end l i e hi
    ·rw [HR.out,e]
   have hPT:PlayedP l w kb wr:=⟨W1,hf1,hgl1,by rw [<- hRe];exact hK⟩;clear hRe;clear hA hK hF;rcases hor with hor | hor
   ·go_wp2;go_ret;exact ⟨kb,rfl,hPT⟩
   ·subst hor;by_cases h3:300<l.length
    ·go_wp2;go_ret;exact ⟨kb,rfl,hPT⟩
    ·go_wp2;go_ret;first | exact ⟨kb,rfl,hPT⟩ | exact ⟨⟨kb,rfl⟩,hPT⟩
theorem PlayedTo.fr {w w':World}{kb:Nat}(h:PlayedTo w kb w'):Fr w w' (fun _=>False):=by
 obtain ⟨W1,R,h1,_,h2⟩:=h;exact h1.step h2.base (fun _=>False.elim)
end Go.Proofs.YtdpjgflemddekaaDoor
