/- The keeping statements: Talk. -/
import Derived.Test.YtdpjgflemddekaaDoorMKeepP
set_option maxRecDepth 100000
set_option maxHeartbeats 8000000
namespace Go.Proofs.YtdpjgflemddekaaDoor
open Go.RowKit
def bF (bs:List Int)(j:Nat):Int:=1+dq ((bs[j]?).getD 0) 65535
def vF (vs:List Int)(j:Nat):Int:=match vs[j]? with | some x=>dq x 4294967296 | none=>0
theorem b6_ (bs:List Int)(j:Nat):1<=bF bs j/\bF bs j<=65535:=by
 have:=ng ((bs[j]?).getD 0) 65535 (by decide);unfold bF;omega
theorem b68 (vs:List Int)(j:Nat):0<=vF vs j/\vF vs j<=4294967295:=by
 unfold vF;cases vs[j]? with
 | none=>decide
 | some x=>have:=ng x 4294967296 (by decide);simp only;omega
theorem b38 (b v:Nat->Int)(i:Nat)(hi:i<6):((tkS b v (i+1) (i+1) 0).R.T.find? (ao (96+16*i))).map gh.thd=some ⟨2,0,0,0,0⟩:=by
 have e:i=0\/i=1\/i=2\/i=3\/i=4\/i=5:=by omega
 rcases e with rfl | rfl | rfl | rfl | rfl | rfl<;>(show _=_;kernel_rfl)
theorem b51 (b v:Nat->Int)(n r:Nat)(hn:n<=6)(hr:r<n):((tkS b v n n (r+1)).R.T.find? (ao 64)).map gh.thd=some ⟨1,0,v r,b r,0⟩/\((tkS b v n n (r+1)).R.T.find? (ao (96+16*r))).map gh.thd=some ⟨1,0,0,0,0⟩:=by
 have e:n=0\/n=1\/n=2\/n=3\/n=4\/n=5\/n=6:=by omega
 have e':r=0\/r=1\/r=2\/r=3\/r=4\/r=5:=by omega
 rcases e with rfl | rfl | rfl | rfl | rfl | rfl | rfl<;>rcases e' with rfl | rfl | rfl | rfl | rfl | rfl<;>first | (exfalso;omega) | exact ⟨by show _=_;kernel_rfl,by show _=_;kernel_rfl⟩
theorem bp4 (bv vv:Value)(bs vs:List Int)(l:Bool)(w:World)(hgl:fm w)(hb:c_ w bv bs)(hv:c_ w vv vs)(hbl:bs.length<=9223372036854775807)(hvl:vs.length<=9223372036854775807)
 (hbr:∀x∈bs,-9223372036854775808<=x/\x<=9223372036854775807) (hvr:∀x∈vs,-9223372036854775808<=x/\x<=9223372036854775807) :
 Calls Tryd.prog 3 #[bv,vv,.bool l] w fun e w'=>e=.returned (.bool true)/\Fr w w' (fun _=>False):=by
 obtain ⟨A,capA,rfl,hA⟩:=hb;obtain ⟨B,capB,rfl,hB⟩:=hv;go_enter Tryd.func3,Tryd.ntmps3
 go_upto_region 2 with (go_at_call 10;refine (a03 _ hgl).mono ?_;rintro e W1 ⟨rfl,f1⟩)
 go_upto_region 5 with (go_at_call 11;go_must (refine (aw4 _ (fm.fr hgl f1)).mono ?_);rintro e W2 ⟨kb,rfl,h2⟩)
 go_upto_region 6 with (go_at_call 12;go_must (refine (h2.call2 tcE 64 0 3 rfl rfl).mono ?_);rintro e W3 ⟨he,h3⟩;rw [b78] at he;subst he)
 clear h2;have hT:=b83 (bF bs) (vF vs);go_upto_region 9 with (go_at_call 12;refine (h3.call2 tcT 64 0 4 rfl rfl).mono ?_;rintro e W4 ⟨he,h4⟩;unfold aft at h4;rw [show (ew ql 64 tcE []).2.2=aft ql 64 tcE from rfl,hT] at h4;rw [hT] at he;subst he)
 clear h3 hT;have h4:KR W1 W4 kb (tkS (bF bs) (vF vs) 0 0 0):=h4;go_upto_block 0 with fail
 go_cut [13,14] (fun v13 _ wx=>∃n:Nat,v13=.int .i64 n/\n<=bs.length/\n<=6/\KR W1 wx kb (tkS (bF bs) (vF vs) n n 0))
 case first=>
  go_wp2_with fail
  go_loopw [13,14] (fun nv iv w'=>∃i:Nat,nv=.int .i64 i/\iv=.int .i64 i/\i<=bs.length/\i<=6/\KR W1 w' kb (tkS (bF bs) (vF vs) i i 0)) (fun _ iv _=>6-(intOf iv).toNat)
  case atStart=>exact ⟨0,rfl,rfl,by omega,by omega,h4⟩
  case round=>
   obtain ⟨i,rfl,rfl,hi1,hi2,hK⟩:=hrel;have hFi:Fr w wr (fun _=>False):=f1.step hK.base (fun _=>False.elim);by_cases hlt:i<bs.length
   ·by_cases hlt6:i<6
    ·obtain ⟨gA,oA,rfl,hcA⟩:=hA (by omega);have cA:=hFi.cell (hcA i hlt) id;have hx:=hbr bs[i] (List.getElem_mem hlt);have hp:=vh bs[i] 65535 wr hx.1 hx.2 (by decide) (by decide);have hbi:bF bs i=1+dq bs[i] 65535:=by unfold bF;rw [List.getElem?_eq_getElem hlt];rfl
     have HBI:Hid (1+dq bs[i] 65535=bF bs i):=hbi.symm;have hpl:=ng bs[i] 65535 (by decide);have hM:=bz9 (bF bs) (vF vs) i hlt6 (b6_ bs i);have hS:=b10 (bF bs) (vF vs) i hlt6 (b68 vs i);have hth:=b38 (bF bs) (vF vs) i hlt6;have HM:Hid (_=_):=hM;have HS:Hid (_=_):=hS;have HTH:Hid (_=_):=hth;clear hM hS hth hbi;go_upto_region 14 with (go_at_call 13;go_must (refine hp.mono ?_);rintro e W5 ⟨rfl,rfl⟩)
     rw [HBI.out];clear hp hpl hcA hA cA;go_upto_region 15 with (go_at_call 12;go_must (refine (hK.call2 (tcM i (bF bs i)) 64 3 (10+i) rfl rfl).mono ?_);rintro e W6 ⟨he,h6⟩;rw [HM.out] at he;subst he)
     have h6:KR W1 W6 kb (tkS (bF bs) (vF vs) (i+1) i 0):=by unfold aft at h6;rw [HM.out] at h6;exact h6
     have hF6:Fr w W6 (fun _=>False):=f1.step h6.base (fun _=>False.elim);clear hK HM;go_upto_if 98 with fail
     go_cut [18] (fun v18 wx=>v18=.int .i64 (vF vs i)/\wx=W6)
     case first=>
      by_cases hvi:i<vs.length
      ·obtain ⟨gB,oB,rfl,hcB⟩:=hB (by omega);have cB:=hF6.cell (hcB i hvi) id;have hy:=hvr vs[i] (List.getElem_mem hvi);have hp:=vh vs[i] 4294967296 W6 hy.1 hy.2 (by decide) (by decide);have HV:Hid (dq vs[i] 4294967296=vF vs i):=by show _=_;unfold vF;rw [List.getElem?_eq_getElem hvi]
       go_wp2_with (go_at_call 13;go_must (refine hp.mono ?_);rintro e W7 ⟨rfl,rfl⟩)
       go_meet;case rel=>exact ⟨by rw [HV.out],rfl⟩
      ·have HV:Hid (vF vs i=0):=by show _=_;unfold vF;rw [List.getElem?_eq_none (by omega)]
       go_wp2;go_meet;case rel=>exact ⟨by rw [HV.out],rfl⟩
     case rest=>
      obtain ⟨rfl,rfl⟩:=hcut;go_upto_region 19 with (go_at_call 12;go_must (refine (h6.call1 (tcS i (vF vs i)) (96+16*i) (10+i) rfl rfl).mono ?_);rintro e W7 ⟨he,h7⟩;rw [HS.out] at he;subst he)
      have h7:KR W1 W7 kb (tkS (bF bs) (vF vs) (i+1) (i+1) 0):=by unfold aft at h7;rw [HS.out] at h7;exact h7
      clear h6 HS;have ht:=h7.thread (96+16*i);rw [HTH.out] at ht;go_wp2_with (go_at_call 14;go_must (refine ht.mono ?_);rintro e W8 ⟨rfl,hf8⟩;simp only [mz])
      go_roundw;case rel=>exact ⟨i+1,by go_num,by go_num,by omega,by omega,(h7.next hf8).next ((Fr.refl _ _).alloc _)⟩
      case measure=>simp [intOf];omega
    ·obtain rfl:i=6:=by omega
     go_wp2;go_meet;case rel=>exact ⟨6,rfl,hi1,hi2,hK⟩
   ·go_wp2;go_meet;case rel=>exact ⟨i,rfl,hi1,hi2,hK⟩
 case rest=>
  obtain ⟨n,rfl,hn1,hn2,h5⟩:=hcut;clear h4;go_upto_block 2 with fail
  rename World=>wd
  go_cut [23] (fun _ wx=>KR W1 wx kb (tkS (bF bs) (vF vs) n n (if l then 0 else n)))
  case first=>
   cases l with
   | true=>
    go_wp2_with fail
    go_loopw [23] (fun iv w'=>iv=.int .i64 0/\KR W1 w' kb (tkS (bF bs) (vF vs) n n 0)) (fun _ _=>0)
    case atStart=>exact ⟨rfl,h5⟩
    case round=>
     obtain ⟨rfl,hK⟩:=hrel;by_cases h0:0<n
     ·go_wp2;go_meet;case rel=>exact hK
     ·go_wp2;go_meet;case rel=>exact hK
   | false=>
    go_wp2_with fail
    go_loopw [23] (fun iv w'=>∃r:Nat,iv=.int .i64 r/\r<=n/\KR W1 w' kb (tkS (bF bs) (vF vs) n n r)) (fun iv _=>n-(intOf iv).toNat)
    case atStart=>exact ⟨0,rfl,by omega,h5⟩
    case round=>
     obtain ⟨r,rfl,hr1,hK⟩:=hrel;by_cases hlt:r<n
     ·have hltB:r<bs.length:=by omega
      have hFi:Fr w wr (fun _=>False):=f1.step hK.base (fun _=>False.elim);have HR:Hid (_=_):=b06 (bF bs) (vF vs) n r hn2 hlt;obtain ⟨g1,g2⟩:=b51 (bF bs) (vF vs) n r hn2 hlt;have HBI:Hid (bF bs r=1+dq bs[r] 65535):=by show _=_;unfold bF;rw [List.getElem?_eq_getElem hltB];rfl
      rw [HBI.out] at g1;have HG1:Hid (_=_):=g1;have HG2:Hid (_=_):=g2;clear g1 g2;obtain ⟨gA,oA,rfl,hcA⟩:=hA (by omega);have hx:=hbr bs[r] (List.getElem_mem hltB);have hpl:=ng bs[r] 65535 (by decide);go_upto_region 27 with (go_at_call 12;go_must (refine (hK.call1 tcR 64 3 rfl rfl).mono ?_);rintro e W6 ⟨he,h6⟩;rw [HR.out] at he;subst he)
      have h6:KR W1 W6 kb (tkS (bF bs) (vF vs) n n (r+1)):=by unfold aft at h6;rw [HR.out] at h6;exact h6
      clear hK HR;have ht:=h6.thread 64;rw [HG1.out] at ht;go_upto_region 28 with (go_at_call 14;go_must (refine ht.mono ?_);rintro e W7 ⟨rfl,hf7⟩;simp only [mz])
      clear ht;have hb7:=heap_alloc_new W7 (.cells #[.int .i64 1,.int .i64 0,.int .i64 (vF vs r),.int .i64 (1+dq bs[r] 65535),.int .i64 0] 33);have h7:=(h6.next hf7).next ((Fr.refl W7 (fun _=>False)).alloc (.cells #[.int .i64 1,.int .i64 0,.int .i64 (vF vs r),.int .i64 (1+dq bs[r] 65535),.int .i64 0] 33));generalize W7.alloc (.cells #[.int .i64 1,.int .i64 0,.int .i64 (vF vs r),.int .i64 (1+dq bs[r] 65535),.int .i64 0] 33)=W8 at hb7 h7 ⊢;generalize W7.heap.size=g7 at hb7 ⊢;have ht:=h7.thread (96+16*r);rw [HG2.out] at ht;go_upto_region 29 with (go_at_call 14;go_must (refine ht.mono ?_);rintro e W9 ⟨rfl,hf9⟩;simp only [mz])
      clear ht;have hb9:=heap_alloc_new W9 (.cells #[.int .i64 1,.int .i64 0,.int .i64 0,.int .i64 0,.int .i64 0] 33);have hfA:=(Fr.refl W9 (fun _=>False)).alloc (.cells #[.int .i64 1,.int .i64 0,.int .i64 0,.int .i64 0,.int .i64 0] 33);have h9:=(h7.next hf9).next hfA;have hb8:=hfA.same (hf9.same hb7 id) id;generalize W9.alloc (.cells #[.int .i64 1,.int .i64 0,.int .i64 0,.int .i64 0,.int .i64 0] 33)=W10 at hb9 hb8 h9 ⊢;generalize W9.heap.size=g9 at hb9 ⊢;clear hf7 hf9 hfA h6 h7 hb7;have hF10:Fr w W10 (fun _=>False):=f1.step h9.base (fun _=>False.elim);go_upto_if 174 with fail
      go_cut [30] (fun v30 wx=>v30=.int .i64 (vF vs r)/\wx=W10)
      case first=>
       by_cases hvi:r<vs.length
       ·obtain ⟨gB,oB,rfl,hcB⟩:=hB (by omega);have cB:=hF10.cell (hcB r hvi) id;have hy:=hvr vs[r] (List.getElem_mem hvi);have hp:=vh vs[r] 4294967296 W10 hy.1 hy.2 (by decide) (by decide);have HV:Hid (dq vs[r] 4294967296=vF vs r):=by show _=_;unfold vF;rw [List.getElem?_eq_getElem hvi]
        go_wp2_with (go_at_call 13;go_must (refine hp.mono ?_);rintro e W11 ⟨rfl,rfl⟩)
        go_meet;case rel=>exact ⟨by rw [HV.out],rfl⟩
       ·have HV:Hid (vF vs r=0):=by show _=_;unfold vF;rw [List.getElem?_eq_none (by omega)]
        go_wp2;go_meet;case rel=>exact ⟨by rw [HV.out],rfl⟩
      case rest=>
       obtain ⟨rfl,rfl⟩:=hcut;have k0:=aa (o:=0) hb8 rfl;have k2:=aa (o:=2) hb8 rfl;have k3:=aa (o:=3) hb8 rfl;have k4:=aa (o:=4) hb8 rfl;have j0:=aa (o:=0) hb9 rfl;have cA:=hF10.cell (hcA r hltB) id;go_wp2_with fail
       go_quiet ((go_at_call 13;exact bj8 (vh bs[r] 65535 _ hx.1 hx.2 (by decide) (by decide))))
       go_wp2;go_roundw;case rel=>exact ⟨r+1,by go_num,by omega,h9.next ((Fr.refl _ _).drewN _)⟩
       case measure=>simp [intOf];omega
     ·obtain rfl:r=n:=by omega
      go_wp2;go_meet;case rel=>exact hK
  case rest=>
   obtain ⟨z1,z2,z3⟩:=b44 (bF bs) (vF vs) n hn2 l;have h6:KR W1 wc kb (tkS (bF bs) (vF vs) n n (if l then 0 else n)):=hcut;clear hcut;generalize (if l then 0 else n)=r0 at z1 z2 z3 h6;have Z1:Hid (_=_):=z1;have Z2:Hid (_=_):=z2;clear h5 z1 z2;go_upto_region 35 with (go_at_call 12;go_must (refine (h6.call1 tcV 64 3 rfl rfl).mono ?_);rintro e W7 ⟨he,h7⟩;rw [Z1.out] at he;subst he)
   go_upto_region 38 with (go_at_call 12;go_must (refine (h7.call1 tcD 64 3 rfl rfl).mono ?_);rintro e W8 ⟨he,h8⟩;rw [Z2.out] at he;subst he)
   have h8:KR W1 W8 kb (tkZ (bF bs) (vF vs) n r0):=h8;clear h6 h7 Z1 Z2;go_wp2;go_loopw [35] (fun iv w'=>∃i:Nat,iv=.int .i64 i/\i<=n/\KR W1 w' kb (tkZ (bF bs) (vF vs) n r0)) (fun iv _=>n-(intOf iv).toNat)
   case atStart=>exact ⟨0,rfl,by omega,h8⟩
   case round=>
    obtain ⟨i,rfl,hi,hK⟩:=hrel;by_cases hlt:i<n
    ·have ht:=hK.thread (96+16*i);rw [z3 i hlt] at ht;cases l with
     | true=>
      go_wp2_with (go_at_call 14;go_must (refine ht.mono ?_);rintro e W9 ⟨rfl,hf9⟩;simp only [mz])
      go_roundw;case rel=>exact ⟨i+1,by go_num,by omega,(hK.next hf9).next ((Fr.refl _ _).alloc _)⟩
      case measure=>simp [intOf];omega
     | false=>
      go_wp2_with (go_at_call 14;go_must (refine ht.mono ?_);rintro e W9 ⟨rfl,hf9⟩;simp only [mz])
      go_roundw;case rel=>exact ⟨i+1,by go_num,by omega,(hK.next hf9).next ((Fr.refl _ _).alloc _)⟩
      case measure=>simp [intOf];omega
    ·go_wp2;go_ret;exact ⟨rfl,f1.step hK.base (fun _=>False.elim)⟩
end Go.Proofs.YtdpjgflemddekaaDoor
